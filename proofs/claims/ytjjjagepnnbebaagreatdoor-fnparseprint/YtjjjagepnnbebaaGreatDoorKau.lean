/-
  OUR OWN TEXT. Ic2b, Ic4, Ic4b, Ic6, Ic3, Ic3b, Ic7, Ic8, Ic9, Ic9b, Ic10, Ic11, Ic12, one behind the other.
-/
import Derived.Test.YtjjjagepnnbebaaGreatDoorKao
import Derived.BigQuiet
import Derived.Deep.RegionLaw
import Derived.Test.YtjjjagepnnbebaaGreatDoorAppm
import Derived.Test.YtjjjagepnnbebaaGreatDoorKas
import Derived.Test.YtjjjagepnnbebaaGreatDoorKam
import Derived.StringKeys
import Derived.Maps.Own
import Derived.Maps.Views
import Derived.Maps.Keyed
import Derived.Shelf.SlMaps.Clone
import Derived.Deep.RegionHeld3
import Derived.Deep.DrawnRows
namespace Go.Proofs.YtjjjagepnnbebaaGreatDoor
open Go.RowKit
attribute [local go_sem ↓] Go.wp_at_zero Go.wp_at_succ

set_option maxHeartbeats 1600000 in
theorem spanOfParts_any (e : Ex) (a : Option Addr) (c : Nat) (S : List Sp) {q : Option Nat} (w : World) (hv : SpsAt q w a S) (hl : S.length ≤ 60) (k2 : e.kind = 2) (ho0 : 0 ≤ e.op) (ho1 : e.op < 256) (hd : ∀ (i : Nat) (s : Sp), S[i]? = some s → s.1 ≤ i ∧ s.2 ≤ 20) :
    Calls Tryz.prog 165 #[.agg #[.int .i64 e.kind, .int .u8 e.op, .string e.var, .int .i64 e.val.kind, .int .i64 e.val.num, .string e.val.sym, .int .i64 e.a, .int .i64 e.b], .slice a S.length c] w fun r w' =>
      (∃ f d : Int, r = .returned (.tuple #[.agg #[.int .i64 f, .int .i64 d], .bool (spanOf S e).isSome]) ∧ ∀ s, spanOf S e = some s → f = (s.1 : Int) ∧ d = (s.2 : Int)) ∧ Below w.heap.size w w' := by
  have B2 : ∀ o o', Below w.heap.size w ((w.alloc o).alloc o') := fun o o' => ((Below.refl _ _).alloc (Nat.le_refl _) _).alloc (by simp) _
  by_cases v0 : e.var.toList = []
  · by_cases z0 : e.val.kind = 0
    · by_cases z1 : e.val.num = 0
      · by_cases z2 : e.val.sym.toList = []
        · cases har : isAr e.op
          · have HN : Hid (spanOf S e = none) := show spanOf S e = none from by simp [spanOf_op k2, opOk, har]
            go_enter Tryz.func165, Tryz.ntmps165
            go_wp2_with (go_at_call 174; refine (isArith_any e.op ho0 ho1 _).mono ?_; rintro e' w' ⟨rfl, rfl⟩)
            refine bodyPost_ret (v := .tuple #[.agg #[.int .i64 0, .int .i64 0], .bool false]) (by simp [results, Tryz.results165, go_sem]) rfl ⟨⟨0, 0, by rw [HN.out]; rfl, fun s h => (by rw [HN.out] at h; cases h)⟩, ?_⟩
            repeat first | exact B2 _ _ | refine below_drewN2 ?_ | refine Below.setCell ?_ (by first | (simp; done) | (simp; omega)) _
          · have HO : Hid (opOk S e = (decide (e.b = (S.length : Int) - 1) && (decide (0 ≤ e.b) && decide (0 ≤ e.a)))) := show opOk S e = _ from by simp [opOk, har, isE, v0, zeroV, z0, z1, z2]
            by_cases b0 : e.b < 0
            · have HN : Hid (spanOf S e = none) := show spanOf S e = none from by rw [spanOf_op k2, HO.out, decide_eq_false (p := 0 ≤ e.b) (by omega)]; simp
              have d0 : decide (e.b < 0) = true := decide_eq_true b0
              go_enter Tryz.func165, Tryz.ntmps165
              go_wp2_with (go_at_call 174; refine (isArith_any e.op ho0 ho1 _).mono ?_; rintro e' w' ⟨rfl, rfl⟩)
              go_quiet (fail)
              go_wp2
              refine bodyPost_ret (v := .tuple #[.agg #[.int .i64 0, .int .i64 0], .bool false]) (by simp [results, Tryz.results165, go_sem]) rfl ⟨⟨0, 0, by rw [HN.out]; rfl, fun s h => (by rw [HN.out] at h; cases h)⟩, ?_⟩
              repeat first | exact B2 _ _ | refine below_drewN2 ?_ | refine Below.setCell ?_ (by first | (simp; done) | (simp; omega)) _
            have d0 : decide (e.b < 0) = false := decide_eq_false b0
            cases e1 : (e.b != (S.length : Int) - 1)
            case true =>
              have HN : Hid (spanOf S e = none) := show spanOf S e = none from by rw [spanOf_op k2, HO.out, decide_eq_false (p := e.b = (S.length : Int) - 1) (by simp at e1; omega)]; simp
              go_enter Tryz.func165, Tryz.ntmps165
              go_wp2_with (go_at_call 174; refine (isArith_any e.op ho0 ho1 _).mono ?_; rintro e' w' ⟨rfl, rfl⟩)
              go_quiet (fail)
              go_wp2
              refine bodyPost_ret (v := .tuple #[.agg #[.int .i64 0, .int .i64 0], .bool false]) (by simp [results, Tryz.results165, go_sem]) rfl ⟨⟨0, 0, by rw [HN.out]; rfl, fun s h => (by rw [HN.out] at h; cases h)⟩, ?_⟩
              repeat first | exact B2 _ _ | refine below_drewN2 ?_ | refine Below.setCell ?_ (by first | (simp; done) | (simp; omega)) _
            case false =>
              have HB : Hid (e.b = (S.length : Int) - 1) := show e.b = (S.length : Int) - 1 from by (simp at e1; omega)
              by_cases a0 : e.a < 0
              · have HN : Hid (spanOf S e = none) := show spanOf S e = none from by rw [spanOf_op k2, HO.out, decide_eq_false (p := 0 ≤ e.a) (by omega)]; simp
                have d1 : decide (e.a < 0) = true := decide_eq_true a0
                go_enter Tryz.func165, Tryz.ntmps165
                go_wp2_with (go_at_call 174; refine (isArith_any e.op ho0 ho1 _).mono ?_; rintro e' w' ⟨rfl, rfl⟩)
                go_quiet (fail)
                go_wp2
                refine bodyPost_ret (v := .tuple #[.agg #[.int .i64 0, .int .i64 0], .bool false]) (by simp [results, Tryz.results165, go_sem]) rfl ⟨⟨0, 0, by rw [HN.out]; rfl, fun s h => (by rw [HN.out] at h; cases h)⟩, ?_⟩
                repeat first | exact B2 _ _ | refine below_drewN2 ?_ | refine Below.setCell ?_ (by first | (simp; done) | (simp; omega)) _
              have d1 : decide (e.a < 0) = false := decide_eq_false a0
              have hB0 := HB.out
              obtain ⟨bn, hbn⟩ := Int.eq_ofNat_of_zero_le (show 0 ≤ e.b by omega)
              obtain ⟨an, han⟩ := Int.eq_ofNat_of_zero_le (show 0 ≤ e.a by omega)
              have hbl : bn + 1 = S.length := by omega
              clear hB0
              obtain ⟨sb, hsb⟩ : ∃ s, S[bn]? = some s := ⟨S[bn]'(by omega), by simp⟩
              obtain ⟨hd1, hd2⟩ := hd bn sb hsb
              obtain ⟨b, o, rfl, hbw, c0, c1⟩ := hv.get hsb
              have HS : Hid (spanOf S e = spanAB S (an : Int) (bn : Int)) := show spanOf S e = _ from by
                rw [spanOf_op k2, HO.out, decide_eq_true HB.out, decide_eq_true (p := 0 ≤ e.b) (by omega), decide_eq_true (p := 0 ≤ e.a) (by omega), han, hbn]
                rfl
              clear HB
              rw [hbn] at d0 e1
              rw [han] at d1
              have z3 : (bn : Int) < (S.length : Int) := by omega
              have z4 : (0 : Int) ≤ (bn : Int) := by omega
              cases e2 : ((an : Int) != (sb.1 : Int) - 1)
              case true =>
                have HN : Hid (spanOf S e = none) := show spanOf S e = none from by
                  rw [HS.out]
                  unfold spanAB
                  simp only [Int.toNat_natCast, hsb]
                  split
                  · rename_i h1 h2
                    injection h1 with h1
                    subst h1
                    rw [decide_eq_false (by simp at e2; omega)]
                    simp
                  · rfl
                rw [hbn, han]
                go_enter Tryz.func165, Tryz.ntmps165
                go_wp2_with (go_at_call 174; refine (isArith_any e.op ho0 ho1 _).mono ?_; rintro e' w' ⟨rfl, rfl⟩)
                go_quiet (fail)
                go_wp2
                refine bodyPost_ret (v := .tuple #[.agg #[.int .i64 0, .int .i64 0], .bool false]) (by simp [results, Tryz.results165, go_sem]) rfl ⟨⟨0, 0, by rw [HN.out]; rfl, fun s h => (by rw [HN.out] at h; cases h)⟩, ?_⟩
                repeat first | exact B2 _ _ | refine below_drewN2 ?_ | refine Below.setCell ?_ (by first | (simp; done) | (simp; omega)) _
              case false =>
                have ha : an + 1 = sb.1 := by (simp at e2; omega)
                obtain ⟨sa, hsa⟩ : ∃ s, S[an]? = some s := ⟨S[an]'(by omega), by simp⟩
                obtain ⟨hd3, hd4⟩ := hd an sa hsa
                obtain ⟨b', o', hbe, hbw', c2, c3⟩ := hv.get hsa
                injection hbe with hbe
                injection hbe with hbe1 hbe2 _
                subst hbe1 hbe2
                have HV : Hid (spanOf S e = if 1 + max sa.2 sb.2 ≤ 20 then some (sa.1, 1 + max sa.2 sb.2) else none) := show spanOf S e = _ from by
                  rw [HS.out]
                  unfold spanAB
                  simp only [Int.toNat_natCast, hsb, hsa]
                  rw [decide_eq_true (p := (an : Int) = (sb.1 : Int) - 1) (by omega)]
                  simp
                refine (spanOfParts_ok e (some ⟨b, o, none⟩) c S w hv hl k2 ho0 ho1 v0 z0 z1 z2 har an bn sa sb han hbn hsa hsb hbl ha hd2 hd4).mono ?_
                rintro r w' ⟨rfl, hb'⟩
                refine ⟨⟨(sa.1 : Int), ((1 + max sa.2 sb.2 : Nat) : Int), ?_, ?_⟩, hb'⟩
                · rw [HV.out]
                  by_cases h20 : 1 + max sa.2 sb.2 ≤ 20 <;> simp [h20]
                · intro s h
                  rw [HV.out] at h
                  split at h
                  · injection h with h
                    rw [← h]
                    exact ⟨rfl, rfl⟩
                  · cases h
        · have HN : Hid (spanOf S e = none) := show spanOf S e = none from by simp [spanOf_op k2, opOk, zeroV, isE, z2]
          go_enter Tryz.func165, Tryz.ntmps165
          go_wp2
          refine bodyPost_ret (v := .tuple #[.agg #[.int .i64 0, .int .i64 0], .bool false]) (by simp [results, Tryz.results165, go_sem]) rfl ⟨⟨0, 0, by rw [HN.out]; rfl, fun s h => (by rw [HN.out] at h; cases h)⟩, ?_⟩
          repeat first | exact B2 _ _ | refine below_drewN2 ?_ | refine Below.setCell ?_ (by first | (simp; done) | (simp; omega)) _
      · have HN : Hid (spanOf S e = none) := show spanOf S e = none from by simp [spanOf_op k2, opOk, zeroV, z1]
        go_enter Tryz.func165, Tryz.ntmps165
        go_wp2
        refine bodyPost_ret (v := .tuple #[.agg #[.int .i64 0, .int .i64 0], .bool false]) (by simp [results, Tryz.results165, go_sem]) rfl ⟨⟨0, 0, by rw [HN.out]; rfl, fun s h => (by rw [HN.out] at h; cases h)⟩, ?_⟩
        repeat first | exact B2 _ _ | refine below_drewN2 ?_ | refine Below.setCell ?_ (by first | (simp; done) | (simp; omega)) _
    · have HN : Hid (spanOf S e = none) := show spanOf S e = none from by simp [spanOf_op k2, opOk, zeroV, z0]
      go_enter Tryz.func165, Tryz.ntmps165
      go_wp2
      refine bodyPost_ret (v := .tuple #[.agg #[.int .i64 0, .int .i64 0], .bool false]) (by simp [results, Tryz.results165, go_sem]) rfl ⟨⟨0, 0, by rw [HN.out]; rfl, fun s h => (by rw [HN.out] at h; cases h)⟩, ?_⟩
      repeat first | exact B2 _ _ | refine below_drewN2 ?_ | refine Below.setCell ?_ (by first | (simp; done) | (simp; omega)) _
  · have HN : Hid (spanOf S e = none) := show spanOf S e = none from by simp [spanOf_op k2, opOk, isE, v0]
    go_enter Tryz.func165, Tryz.ntmps165
    go_wp2
    refine bodyPost_ret (v := .tuple #[.agg #[.int .i64 0, .int .i64 0], .bool false]) (by simp [results, Tryz.results165, go_sem]) rfl ⟨⟨0, 0, by rw [HN.out]; rfl, fun s h => (by rw [HN.out] at h; cases h)⟩, ?_⟩
    repeat first | exact B2 _ _ | refine below_drewN2 ?_ | refine Below.setCell ?_ (by first | (simp; done) | (simp; omega)) _
end Go.Proofs.YtjjjagepnnbebaaGreatDoor

namespace Go.Proofs.YtjjjagepnnbebaaGreatDoor
open Go.RowKit
attribute [local go_sem ↓] Go.wp_at_zero Go.wp_at_succ

theorem size3 (w : World) (o o1 o2 : Obj) : (((w.alloc o).alloc o1).alloc o2).drew.heap.size = w.heap.size + 3 := by
  show (((w.alloc o).alloc o1).alloc o2).heap.size = _
  simp

set_option maxHeartbeats 3200000 in
theorem exprSpan_0 (e : Ex) (a : Option Addr) (c : Nat) (S : List Sp) (w : World) (hs : e.le maxLen) (k0 : e.kind = 0) :
    Calls Tryz.prog 143 #[.agg #[.int .i64 e.kind, .int .u8 e.op, .string e.var, .int .i64 e.val.kind, .int .i64 e.val.num, .string e.val.sym, .int .i64 e.a, .int .i64 e.b], .slice a S.length c] w fun r w' =>
      r = .returned (.tuple #[.agg #[.int .i64 (S.length : Int), .int .i64 0], .bool (leafOk e && (isE e.var && gVal e.val))]) ∧ Below w.heap.size w w' := by
  obtain ⟨hs1, hs2⟩ := hs
  have B3 : ∀ o o1 o2, Below w.heap.size w (((w.alloc o).alloc o1).alloc o2) := fun o o1 o2 => (((Below.refl _ _).alloc (Nat.le_refl _) _).alloc (by simp) _).alloc (by simp; omega) _
  by_cases h1 : e.op = 0
  · by_cases h4 : e.var.toList = []
    · by_cases h2 : e.a = 0
      · by_cases h3 : e.b = 0
        · have HV : Hid ((leafOk e && (isE e.var && gVal e.val)) = gVal e.val) := show (leafOk e && (isE e.var && gVal e.val)) = gVal e.val from by simp [leafOk, isE, h1, h2, h3, h4]
          go_enter Tryz.func143, Tryz.ntmps143
          go_wp2
          first
          | (go_region_law (first | (go_simp; go_at_call 163; refine (valGood_any e.val _ hs2).mono ?_; rintro e' w' ⟨rfl, hb'⟩; have hB' : Below w.heap.size w w' := (B3 _ _ _).drew.trans (hb'.mono (by rw [size3]; omega)); have y0 : w'.cell? ⟨w.heap.size + 1, 0, none⟩ = some (.int .i64 0) := cell_below hb' (by simp [go_sem]); have y1 : w'.cell? ⟨w.heap.size + 1, 1, none⟩ = some (.int .i64 0) := cell_below hb' (by simp [go_sem]); have z0 : w'.cell? ⟨w.heap.size + 1 + 1, 0, none⟩ = some (.int .i64 (S.length : Int)) := cell_below hb' (by simp [go_sem]); have z1 : w'.cell? ⟨w.heap.size + 1 + 1, 1, none⟩ = some (.int .i64 0) := cell_below hb' (by simp [go_sem]); have yf0 : w'.frozen? ⟨w.heap.size + 1, 0, none⟩ = false := (by rw [(bcell hb').2 _ _ (by simp)]; simp [go_sem]); have yf1 : w'.frozen? ⟨w.heap.size + 1, 1, none⟩ = false := (by rw [(bcell hb').2 _ _ (by simp)]; simp [go_sem]))))
          | fail
          all_goals go_wp2
          all_goals refine bodyPost_ret (v := .tuple #[.agg #[.int .i64 (S.length : Int), .int .i64 0], .bool (gVal e.val)]) (by simp [results, Tryz.results143, go_sem, y0, y1]) rfl ⟨?_, ?_⟩
          all_goals first | (rw [HV.out]; done) | exact (hB'.setCell (by simp) _).setCell (by simp) _ | (trace_state; fail)
        · have HN : Hid ((leafOk e && (isE e.var && gVal e.val)) = false) := show (leafOk e && (isE e.var && gVal e.val)) = false from by simp [leafOk, h3]
          go_enter Tryz.func143, Tryz.ntmps143
          go_wp2
          go_region
          all_goals go_wp2
          all_goals refine bodyPost_ret (v := .tuple #[.agg #[.int .i64 (S.length : Int), .int .i64 0], .bool false]) (by simp [results, Tryz.results143, go_sem]) rfl ⟨?_, ?_⟩
          all_goals first | (rw [HN.out]; done) | (repeat first | exact B3 _ _ _ | refine Below.drew ?_ | refine Below.setCell ?_ (by first | (simp; done) | (simp; omega)) _; done)
      · have HN : Hid ((leafOk e && (isE e.var && gVal e.val)) = false) := show (leafOk e && (isE e.var && gVal e.val)) = false from by simp [leafOk, h2]
        go_enter Tryz.func143, Tryz.ntmps143
        go_wp2
        go_region
        all_goals go_wp2
        all_goals refine bodyPost_ret (v := .tuple #[.agg #[.int .i64 (S.length : Int), .int .i64 0], .bool false]) (by simp [results, Tryz.results143, go_sem]) rfl ⟨?_, ?_⟩
        all_goals first | (rw [HN.out]; done) | (repeat first | exact B3 _ _ _ | refine Below.drew ?_ | refine Below.setCell ?_ (by first | (simp; done) | (simp; omega)) _; done)
    · have HN : Hid ((leafOk e && (isE e.var && gVal e.val)) = false) := show (leafOk e && (isE e.var && gVal e.val)) = false from by simp [isE, h4]
      go_enter Tryz.func143, Tryz.ntmps143
      go_wp2
      go_region
      all_goals go_wp2
      all_goals refine bodyPost_ret (v := .tuple #[.agg #[.int .i64 (S.length : Int), .int .i64 0], .bool false]) (by simp [results, Tryz.results143, go_sem]) rfl ⟨?_, ?_⟩
      all_goals first | (rw [HN.out]; done) | (repeat first | exact B3 _ _ _ | refine Below.drew ?_ | refine Below.setCell ?_ (by first | (simp; done) | (simp; omega)) _; done)
  · have HN : Hid ((leafOk e && (isE e.var && gVal e.val)) = false) := show (leafOk e && (isE e.var && gVal e.val)) = false from by simp [leafOk, h1]
    go_enter Tryz.func143, Tryz.ntmps143
    go_wp2
    go_region
    all_goals go_wp2
    all_goals refine bodyPost_ret (v := .tuple #[.agg #[.int .i64 (S.length : Int), .int .i64 0], .bool false]) (by simp [results, Tryz.results143, go_sem]) rfl ⟨?_, ?_⟩
    all_goals first | (rw [HN.out]; done) | (repeat first | exact B3 _ _ _ | refine Below.drew ?_ | refine Below.setCell ?_ (by first | (simp; done) | (simp; omega)) _; done)
end Go.Proofs.YtjjjagepnnbebaaGreatDoor

namespace Go.Proofs.YtjjjagepnnbebaaGreatDoor
open Go.RowKit
attribute [local go_sem ↓] Go.wp_at_zero Go.wp_at_succ

set_option maxHeartbeats 3200000 in
theorem exprSpan_1 (e : Ex) (a : Option Addr) (c : Nat) (S : List Sp) (w : World) (hs : e.le maxLen) (k1 : e.kind = 1) :
    Calls Tryz.prog 143 #[.agg #[.int .i64 e.kind, .int .u8 e.op, .string e.var, .int .i64 e.val.kind, .int .i64 e.val.num, .string e.val.sym, .int .i64 e.a, .int .i64 e.b], .slice a S.length c] w fun r w' =>
      r = .returned (.tuple #[.agg #[.int .i64 (S.length : Int), .int .i64 0], .bool (leafOk e && (gSym e.var.data.toList && zeroV e.val))]) ∧ Below w.heap.size w w' := by
  obtain ⟨hs1, hs2⟩ := hs
  have B3 : ∀ o o1 o2, Below w.heap.size w (((w.alloc o).alloc o1).alloc o2) := fun o o1 o2 => (((Below.refl _ _).alloc (Nat.le_refl _) _).alloc (by simp) _).alloc (by simp; omega) _
  by_cases h1 : e.op = 0
  · by_cases z0 : e.val.kind = 0
    · by_cases z1 : e.val.num = 0
      · by_cases z2 : e.val.sym.toList = []
        · by_cases h2 : e.a = 0
          · by_cases h3 : e.b = 0
            · have HV : Hid ((leafOk e && (gSym e.var.data.toList && zeroV e.val)) = gSym e.var.data.toList) := show (leafOk e && (gSym e.var.data.toList && zeroV e.val)) = gSym e.var.data.toList from by simp [leafOk, zeroV, isE, h1, h2, h3, z0, z1, z2]
              go_enter Tryz.func143, Tryz.ntmps143
              go_wp2
              first
              | (go_region_law (first | (go_simp; go_at_call 96; refine (goodSymbol_any e.var _ hs1).mono ?_; rintro e' w' ⟨rfl, rfl⟩)))
              | fail
              all_goals go_wp2
              all_goals refine bodyPost_ret (v := .tuple #[.agg #[.int .i64 (S.length : Int), .int .i64 0], .bool (gSym e.var.data.toList)]) (by simp [results, Tryz.results143, go_sem]) rfl ⟨?_, ?_⟩
              all_goals first | (rw [HV.out]; done) | (repeat first | exact B3 _ _ _ | refine Below.drew ?_ | refine Below.setCell ?_ (by first | (simp; done) | (simp; omega)) _; done)
            · have HN : Hid ((leafOk e && (gSym e.var.data.toList && zeroV e.val)) = false) := show (leafOk e && (gSym e.var.data.toList && zeroV e.val)) = false from by simp [leafOk, h3]
              go_enter Tryz.func143, Tryz.ntmps143
              go_wp2
              go_region
              all_goals go_wp2
              all_goals refine bodyPost_ret (v := .tuple #[.agg #[.int .i64 (S.length : Int), .int .i64 0], .bool false]) (by simp [results, Tryz.results143, go_sem]) rfl ⟨?_, ?_⟩
              all_goals first | (rw [HN.out]; done) | (repeat first | exact B3 _ _ _ | refine Below.drew ?_ | refine Below.setCell ?_ (by first | (simp; done) | (simp; omega)) _; done)
          · have HN : Hid ((leafOk e && (gSym e.var.data.toList && zeroV e.val)) = false) := show (leafOk e && (gSym e.var.data.toList && zeroV e.val)) = false from by simp [leafOk, h2]
            go_enter Tryz.func143, Tryz.ntmps143
            go_wp2
            go_region
            all_goals go_wp2
            all_goals refine bodyPost_ret (v := .tuple #[.agg #[.int .i64 (S.length : Int), .int .i64 0], .bool false]) (by simp [results, Tryz.results143, go_sem]) rfl ⟨?_, ?_⟩
            all_goals first | (rw [HN.out]; done) | (repeat first | exact B3 _ _ _ | refine Below.drew ?_ | refine Below.setCell ?_ (by first | (simp; done) | (simp; omega)) _; done)
        · have HN : Hid ((leafOk e && (gSym e.var.data.toList && zeroV e.val)) = false) := show (leafOk e && (gSym e.var.data.toList && zeroV e.val)) = false from by simp [zeroV, isE, z2]
          go_enter Tryz.func143, Tryz.ntmps143
          go_wp2
          go_region
          all_goals go_wp2
          all_goals refine bodyPost_ret (v := .tuple #[.agg #[.int .i64 (S.length : Int), .int .i64 0], .bool false]) (by simp [results, Tryz.results143, go_sem]) rfl ⟨?_, ?_⟩
          all_goals first | (rw [HN.out]; done) | (repeat first | exact B3 _ _ _ | refine Below.drew ?_ | refine Below.setCell ?_ (by first | (simp; done) | (simp; omega)) _; done)
      · have HN : Hid ((leafOk e && (gSym e.var.data.toList && zeroV e.val)) = false) := show (leafOk e && (gSym e.var.data.toList && zeroV e.val)) = false from by simp [zeroV, z1]
        go_enter Tryz.func143, Tryz.ntmps143
        go_wp2
        go_region
        all_goals go_wp2
        all_goals refine bodyPost_ret (v := .tuple #[.agg #[.int .i64 (S.length : Int), .int .i64 0], .bool false]) (by simp [results, Tryz.results143, go_sem]) rfl ⟨?_, ?_⟩
        all_goals first | (rw [HN.out]; done) | (repeat first | exact B3 _ _ _ | refine Below.drew ?_ | refine Below.setCell ?_ (by first | (simp; done) | (simp; omega)) _; done)
    · have HN : Hid ((leafOk e && (gSym e.var.data.toList && zeroV e.val)) = false) := show (leafOk e && (gSym e.var.data.toList && zeroV e.val)) = false from by simp [zeroV, z0]
      go_enter Tryz.func143, Tryz.ntmps143
      go_wp2
      go_region
      all_goals go_wp2
      all_goals refine bodyPost_ret (v := .tuple #[.agg #[.int .i64 (S.length : Int), .int .i64 0], .bool false]) (by simp [results, Tryz.results143, go_sem]) rfl ⟨?_, ?_⟩
      all_goals first | (rw [HN.out]; done) | (repeat first | exact B3 _ _ _ | refine Below.drew ?_ | refine Below.setCell ?_ (by first | (simp; done) | (simp; omega)) _; done)
  · have HN : Hid ((leafOk e && (gSym e.var.data.toList && zeroV e.val)) = false) := show (leafOk e && (gSym e.var.data.toList && zeroV e.val)) = false from by simp [leafOk, h1]
    go_enter Tryz.func143, Tryz.ntmps143
    go_wp2
    go_region
    all_goals go_wp2
    all_goals refine bodyPost_ret (v := .tuple #[.agg #[.int .i64 (S.length : Int), .int .i64 0], .bool false]) (by simp [results, Tryz.results143, go_sem]) rfl ⟨?_, ?_⟩
    all_goals first | (rw [HN.out]; done) | (repeat first | exact B3 _ _ _ | refine Below.drew ?_ | refine Below.setCell ?_ (by first | (simp; done) | (simp; omega)) _; done)
end Go.Proofs.YtjjjagepnnbebaaGreatDoor

namespace Go.Proofs.YtjjjagepnnbebaaGreatDoor
open Go.RowKit
attribute [local go_sem ↓] Go.wp_at_zero Go.wp_at_succ

theorem hideIt {p : Prop} (h : p) : Hid p := h

set_option maxHeartbeats 800000 in
theorem exprSpan_any (e : Ex) (a : Option Addr) (c : Nat) (S : List Sp) {q : Option Nat} (w : World) (hv : SpsAt q w a S) (hl : S.length ≤ 60) (hs : e.le maxLen) (ho0 : 0 ≤ e.op) (ho1 : e.op < 256) (hd : ∀ (i : Nat) (s : Sp), S[i]? = some s → s.1 ≤ i ∧ s.2 ≤ 20) :
    Calls Tryz.prog 143 #[.agg #[.int .i64 e.kind, .int .u8 e.op, .string e.var, .int .i64 e.val.kind, .int .i64 e.val.num, .string e.val.sym, .int .i64 e.a, .int .i64 e.b], .slice a S.length c] w fun r w' =>
      (∃ f d : Int, r = .returned (.tuple #[.agg #[.int .i64 f, .int .i64 d], .bool (spanOf S e).isSome]) ∧ ∀ s, spanOf S e = some s → f = (s.1 : Int) ∧ d = (s.2 : Int)) ∧ Below w.heap.size w w' := by
  by_cases k0 : e.kind = 0
  · have hs0 : spanOf S e = if leafOk e && (isE e.var && gVal e.val) then some (S.length, 0) else none := by simp [spanOf, k0]
    refine (exprSpan_0 e a c S w hs k0).mono ?_
    rintro r w' ⟨rfl, hb⟩
    rw [hs0]
    refine ⟨⟨S.length, 0, ?_, ?_⟩, hb⟩
    · cases leafOk e && (isE e.var && gVal e.val) <;> rfl
    · intro s h
      split at h
      · injection h with h
        rw [← h]
        exact ⟨rfl, rfl⟩
      · cases h
  by_cases k1 : e.kind = 1
  · have hs0 : spanOf S e = if leafOk e && (gSym e.var.data.toList && zeroV e.val) then some (S.length, 0) else none := by simp [spanOf, k1]
    refine (exprSpan_1 e a c S w hs k1).mono ?_
    rintro r w' ⟨rfl, hb⟩
    rw [hs0]
    refine ⟨⟨S.length, 0, ?_, ?_⟩, hb⟩
    · cases leafOk e && (gSym e.var.data.toList && zeroV e.val) <;> rfl
    · intro s h
      split at h
      · injection h with h
        rw [← h]
        exact ⟨rfl, rfl⟩
      · cases h
  have B3 : ∀ o o1 o2, Below w.heap.size w (((w.alloc o).alloc o1).alloc o2) := fun o o1 o2 => (((Below.refl _ _).alloc (Nat.le_refl _) _).alloc (by simp) _).alloc (by simp; omega) _
  by_cases k2 : e.kind = 2
  · have hsp := fun w h => spanOfParts_any e a c S (q := q) w h hl k2 ho0 ho1 hd
    simp only [k2] at hsp
    have HP := hideIt hsp
    clear hsp
    go_enter Tryz.func143, Tryz.ntmps143
    go_wp2_with (go_at_call 165; refine (HP.out _ (hv.below (B3 _ _ _))).mono ?_; rintro e' w' ⟨⟨f, d, rfl, hfd⟩, hb'⟩; have y0 : w'.cell? ⟨w.heap.size + 1, 0, none⟩ = some (.int .i64 0) := cell_below hb' (by simp [go_sem]); have y1 : w'.cell? ⟨w.heap.size + 1, 1, none⟩ = some (.int .i64 0) := cell_below hb' (by simp [go_sem]); have yf0 : w'.frozen? ⟨w.heap.size + 1, 0, none⟩ = false := (by rw [(bcell hb').2 _ _ (by simp)]; simp [go_sem]); have yf1 : w'.frozen? ⟨w.heap.size + 1, 1, none⟩ = false := (by rw [(bcell hb').2 _ _ (by simp)]; simp [go_sem]))
    have hB' : Below w.heap.size w w' := (B3 _ _ _).trans (hb'.mono (by simp; omega))
    refine bodyPost_ret (v := .tuple #[.agg #[.int .i64 f, .int .i64 d], .bool (spanOf S e).isSome]) (by simp [results, Tryz.results143, go_sem, y0, y1]) rfl ⟨⟨f, d, rfl, hfd⟩, (hB'.setCell (by simp) _).setCell (by simp) _⟩
  · have HN : Hid (spanOf S e = none) := show spanOf S e = none from by simp [spanOf, k0, k1, k2]
    go_enter Tryz.func143, Tryz.ntmps143
    go_wp2
    refine bodyPost_ret (v := .tuple #[.agg #[.int .i64 0, .int .i64 0], .bool false]) (by simp [results, Tryz.results143, go_sem]) rfl ⟨⟨0, 0, by rw [HN.out]; rfl, fun s h => (by rw [HN.out] at h; cases h)⟩, B3 _ _ _⟩

def spCells (s : Sp) : List Value := [.int .i64 (s.1 : Int), .int .i64 (s.2 : Int)]
theorem spFlat_at : ∀ (S : List Sp) (i : Nat) (s : Sp), S[i]? = some s → (S.flatMap spCells)[i * 2]? = some (.int .i64 (s.1 : Int)) ∧ (S.flatMap spCells)[i * 2 + 1]? = some (.int .i64 (s.2 : Int))
  | [], i, s, h => by simp at h
  | x :: r, 0, s, h => by
    simp at h
    subst h
    exact ⟨rfl, rfl⟩
  | x :: r, i + 1, s, h => by
    have := spFlat_at r i s (by simpa using h)
    rw [List.flatMap_cons]
    refine ⟨?_, ?_⟩
    · rw [List.getElem?_append_right (by simp [spCells]; omega), show (i + 1) * 2 - (spCells x).length = i * 2 by simp [spCells]; omega]
      exact this.1
    · rw [List.getElem?_append_right (by simp [spCells]; omega), show (i + 1) * 2 + 1 - (spCells x).length = i * 2 + 1 by simp [spCells]; omega]
      exact this.2
theorem SpsAt.owns {w : World} {base n : Nat} {a : Option Addr} {c : Nat} {S : List Sp} (h : w.ownsRow base 201 2 (.slice a n c) n (S.flatMap spCells)) : SpsAt none w a S := by
  intro i s hs
  obtain ⟨k0, k1⟩ := spFlat_at S i s hs
  obtain ⟨g, rfl, _, h0, _⟩ := owns_cell h k0
  obtain ⟨g1, he1, _, h1, _⟩ := owns_cell h k1
  cases he1
  refine ⟨g, 0, [.int .i64 (s.1 : Int), .int .i64 (s.2 : Int)], rfl, Qb.bare _ _ _, rfl, ?_, rfl⟩
  intro j v hj
  rw [Nat.zero_add]
  match j, hj with
  | 0, hj => simp at hj; subst hj; exact h0
  | 1, hj => simp at hj; subst hj; exact h1
theorem infoSp : (Tryz.prog.info? 201).map (fun i => (i.zero, i.size, i.bytes)) = some (some (.agg #[.int .i64 0, .int .i64 0]), 2, 16) := by kernel_rfl
theorem news_alloc' (w : World) (L : List Value) (t : TypeId) (ad : Addr) (e : some (⟨w.heap.size, 0, none⟩ : Addr) = some ad) (j : Nat) (u : Value) (h : L[j]? = some u) : (w.alloc (.cells L.toArray t)).cell? (ad.add j) = some u := by
  cases e
  rw [Addr.add_mid, Nat.zero_add]
  have hb := heap_alloc_new w (.cells L.toArray t)
  simp only [World.cell?, hb]
  simpa using h
theorem news_alloc2 (w : World) (L : List Value) (t : TypeId) (b : Nat) (hb : b = w.heap.size) (ad : Addr) (e : some (⟨b, 0, none⟩ : Addr) = some ad) (j : Nat) (u : Value) (h : L[j]? = some u) : (w.alloc (.cells L.toArray t)).cell? (ad.add j) = some u := by
  subst hb
  exact news_alloc' w L t ad e j u h
theorem ownsBelow {w w' : World} {base : Nat} {e : TypeId} {size : Nat} {v : Value} {n : Nat} {xs : List Value} (h : w.ownsRow base e size v n xs) (hb : Below w.heap.size w w') : w'.ownsRow base e size v n xs :=
  owns_of_block h (fun g hg => hb.block g (h.lt g hg).2)
theorem spCells_one (s : Sp) : ∀ u ∈ spCells s, u.oneCell' = true := by
  intro u hu
  simp [spCells] at hu
  rcases hu with rfl | rfl <;> rfl

/-- Each op is a byte. -/
def OpsOk (es : List Ex) : Prop := ∀ e ∈ es, 0 ≤ e.op ∧ e.op < 256

set_option maxHeartbeats 1600000 in
theorem spans_any (x : Ru) (a_pats : Option Addr) (c_pats : Nat) (a_exprs : Option Addr) (c_exprs : Nat) (a_acts : Option Addr) (c_acts : Nat) {q : Option Nat} (w : World) (h_exprs : ExsAt q w a_exprs x.exprs) (hl : x.exprs.length ≤ 60) (hs : ListLe Ex.le maxLen x.exprs) (ho : OpsOk x.exprs) :
    Calls Tryz.prog 98 #[.agg #[.string x.name, .int .i64 x.sal, .slice a_pats x.pats.length c_pats, .slice a_exprs x.exprs.length c_exprs, .slice a_acts x.acts.length c_acts]] w fun e w' =>
      (∃ a c, e = .returned (.tuple #[.slice a (spansGo [] x.exprs).length c, .bool (decide ((spansGo [] x.exprs).length = x.exprs.length))]) ∧ SpsAt none w' a (spansGo [] x.exprs)) ∧ Below w.heap.size w w' := by
  go_enter Tryz.func98, Tryz.ntmps98
  go_wp2
  go_loopw [4, 12] (fun v i wr => ∃ (S : List Sp) (a : Option Addr) (c : Nat), S.length ≤ x.exprs.length ∧ i = .int .i64 (S.length : Int) ∧ v = .slice a S.length c ∧ Spans x.exprs S ∧ spansGo [] x.exprs = spansGo S (x.exprs.drop S.length) ∧ wr.ownsRow w.heap.size 201 2 (.slice a S.length c) S.length (S.flatMap spCells) ∧ Below w.heap.size w wr) (fun _ i _ => x.exprs.length - (intOf i).toNat)
  case atStart => exact ⟨[], none, 0, by simp, rfl, rfl, Spans.nil _, rfl, World.ownsRow_nil _ _ _ _, (Below.refl _ _).alloc (Nat.le_refl _) _⟩
  case round =>
    obtain ⟨S, a, c, hk, rfl, rfl, hS, hG, hown, hb⟩ := hrel
    have HG : Hid (spansGo [] x.exprs = spansGo S (x.exprs.drop S.length)) := hG
    have HO := hideIt hown
    clear hG hown
    by_cases hkl : S.length < x.exprs.length
    · obtain ⟨e, hek⟩ : ∃ e, x.exprs[S.length]? = some e := ⟨x.exprs[S.length], by simp [hkl]⟩
      obtain ⟨b, o, rfl, hq, c0, c1, c2, c3, c4, c5, c6, c7⟩ := (h_exprs.below hb).get hek
      have HD : Hid (x.exprs.drop S.length = e :: x.exprs.drop (S.length + 1)) := drop_cons hek
      have hse := hs.2 e (List.mem_of_getElem? hek)
      obtain ⟨ho0, ho1⟩ := ho e (List.mem_of_getElem? hek)
      have hd : Hid (∀ (i : Nat) (s : Sp), S[i]? = some s → s.1 ≤ i ∧ s.2 ≤ 20) := show ∀ (i : Nat) (s : Sp), S[i]? = some s → s.1 ≤ i ∧ s.2 ≤ 20 from fun i s h => ⟨hS.first_le i s h, hS.depth_le i s h⟩
      have HS := hideIt hS
      clear hS
      have B1 : ∀ o, Below wr.heap.size wr (wr.alloc o) := fun o => (Below.refl _ _).alloc (Nat.le_refl _) _
      cases hsp : spanOf S e with
      | none =>
        have HN : Hid (spansGo [] x.exprs = S) := show spansGo [] x.exprs = S from by rw [HG.out, HD.out, spansGo, hsp]
        go_wp2_with (go_at_call 143; refine (exprSpan_any e a c S _ ((SpsAt.owns HO.out).below (B1 _)) (by omega) hse ho0 ho1 hd.out).mono ?_; rintro e' w1 ⟨⟨f, d, rfl, hfd⟩, hb1⟩)
        have hW1 : Below wr.heap.size wr w1 := (B1 _).trans (hb1.mono (by simp))
        have hW2 : Below w.heap.size w w1 := hb.trans (hW1.mono hb.size)
        refine bodyPost_ret (v := .tuple #[.slice a S.length c, .bool false]) (by simp [results, Tryz.results98, go_sem]) rfl ⟨⟨a, c, by rw [HN.out, decide_eq_false (by omega)], ?_⟩, hW2.alloc hW2.size _⟩
        rw [HN.out]
        exact ((SpsAt.owns HO.out).below hW1).below ((Below.refl _ _).alloc (Nat.le_refl _) _)
      | some s =>
        have HN : Hid (spansGo [] x.exprs = spansGo (S ++ [s]) (x.exprs.drop (S.length + 1))) := show spansGo [] x.exprs = _ from by rw [HG.out, HD.out, spansGo, hsp]
        go_wp2_with (first | (go_at_call 143; refine (exprSpan_any e a c S _ ((SpsAt.owns HO.out).below (B1 _)) (by omega) hse ho0 ho1 hd.out).mono ?_; rintro e' w1 ⟨⟨f, d, rfl, hfd⟩, hb1⟩; obtain ⟨rfl, rfl⟩ := hfd s hsp; have hW1 : Below wr.heap.size wr w1 := (B1 _).trans (hb1.mono (by simp)); have ho1 := hideIt (ownsBelow HO.out hW1)) | (at_builtin; refine wpList_append_any (by rfl) (.tmp 25) (.tmp 27) 153 (by rfl) w.heap.size 201 _ 2 16 Tryz.underlying153 infoSp (by rfl) (by omega) _ S.length _ (by rfl) ((ho1.out.alloc _).alloc _) (some ⟨w1.heap.size + 1, 0, none⟩) 1 1 (by rfl) (spCells s) (by rfl) (fun e => by cases e) (news_alloc2 _ _ _ _ (by simp)) (spCells_one s) (by unfold maxLen; omega) (by omega) (by have h1 := hb.size; have h2 := hW1.size; simp; omega) ?_; intro a2 c2' w2 ho2 hg2 hl2))
        have hW2 : Below w.heap.size w w1 := hb.trans (hW1.mono hb.size)
        have hsz := hW2.size
        go_roundw
        case rel =>
          refine ⟨S ++ [s], a2, c2', by simp; omega, by simp, by simp, HS.out.snoc hek hsp, ?_, ?_, ?_⟩
          · rw [HN.out]
            simp
          · have := ho2.out
            rw [List.flatMap_append]
            simpa [spCells] using this
          · exact ((hW2.alloc hsz _).alloc (by simp; omega) _).grown hg2.out (by simp; omega) (fun j hj => (ho1.out.lt j hj).1)
        case measure => simp [intOf]; omega
    · go_wp2
      have HN : Hid (spansGo [] x.exprs = S) := show spansGo [] x.exprs = S from by
        rw [HG.out, List.drop_eq_nil_of_le (by omega)]
        rfl
      refine bodyPost_ret (v := .tuple #[.slice a S.length c, .bool true]) (by simp [results, Tryz.results98, go_sem]) rfl ⟨⟨a, c, by rw [HN.out, decide_eq_true (by omega)], ?_⟩, hb⟩
      rw [HN.out]
      exact SpsAt.owns HO.out
end Go.Proofs.YtjjjagepnnbebaaGreatDoor

namespace Go.Proofs.YtjjjagepnnbebaaGreatDoor
open Go.RowKit
attribute [local go_sem ↓] Go.wp_at_zero Go.wp_at_succ

theorem fields_fin (y : Ac) (k1 k2 k3 k4 : Bool) (x : Bool) (h1 : (y.kind == 1) = k1) (h2 : (y.kind == 2) = k2) (h3 : (y.kind == 3) = k3) (h4 : (y.kind == 4) = k4) (h : x = (if k1 then gCls y.cls && y.k == 0
    else if k2 then (y.cls.toList.isEmpty && (decide (-1000000 ≤ y.k) && decide (y.k ≤ 1000000))) && ((y.args.length : Int) == 0)
    else if k3 then y.cls.toList.isEmpty && (decide (-1000000 ≤ y.k) && decide (y.k ≤ 1000000))
    else if k4 then y.cls.toList.isEmpty && (y.k == 0 && ((y.args.length : Int) == 0))
    else false)) : x = fieldsOk y := by
  have L : y.args.isEmpty = ((y.args.length : Int) == 0) := by
    cases y.args with
    | nil => rfl
    | cons v r => simp; omega
  rw [h, ← h1, ← h2, ← h3, ← h4, ← L]
  rfl

set_option maxHeartbeats 800000 in
theorem rightFields_any (y : Ac) (a_args : Option Addr) (c_args : Nat) (w : World) (hcl : y.cls.size ≤ maxLen) :
    Calls Tryz.prog 144 #[.agg #[.int .i64 y.kind, .int .i64 y.k, .string y.cls, .slice a_args y.args.length c_args]] w fun e w' =>
      e = .returned (.bool (fieldsOk y)) ∧ Below w.heap.size w w' := by
  have B1 : ∀ o, Below w.heap.size w (w.alloc o) := fun o => (Below.refl _ _).alloc (Nat.le_refl _) _
  cases he : y.cls.toList.isEmpty
  · by_cases k1 : y.kind = 1
    · cases hg : gCls y.cls
      all_goals
        go_enter Tryz.func144, Tryz.ntmps144
        go_wp2_with (go_at_call 141; refine (goodClass_any y.cls _ hcl).mono ?_; rintro e w' ⟨rfl, rfl⟩)
        go_ret
        exact ⟨ret_bool (fields_fin y true false false false _ (by simp [k1]) (by simp [k1]) (by simp [k1]) (by simp [k1]) (by simp [hg])), B1 _⟩
    by_cases k2 : y.kind = 2
    · go_enter Tryz.func144, Tryz.ntmps144
      go_wp2
      go_ret
      exact ⟨ret_bool (fields_fin y false true false false _ (by simp [k2]) (by simp [k2]) (by simp [k2]) (by simp [k2]) (by simp [he])), B1 _⟩
    by_cases k3 : y.kind = 3
    · go_enter Tryz.func144, Tryz.ntmps144
      go_wp2
      go_ret
      exact ⟨ret_bool (fields_fin y false false true false _ (by simp [k3]) (by simp [k3]) (by simp [k3]) (by simp [k3]) (by simp [he])), B1 _⟩
    by_cases k4 : y.kind = 4
    · go_enter Tryz.func144, Tryz.ntmps144
      go_wp2
      go_ret
      exact ⟨ret_bool (fields_fin y false false false true _ (by simp [k4]) (by simp [k4]) (by simp [k4]) (by simp [k4]) (by simp [he])), B1 _⟩
    · go_enter Tryz.func144, Tryz.ntmps144
      go_wp2
      go_ret
      exact ⟨ret_bool (fields_fin y false false false false _ (by simpa using k1) (by simpa using k2) (by simpa using k3) (by simpa using k4) rfl), B1 _⟩
  · have hb : (-1000000 ≤ y.k ∧ y.k ≤ 1000000) ∨ (¬ -1000000 ≤ y.k ∧ y.k ≤ 1000000) ∨ (-1000000 ≤ y.k ∧ ¬ y.k ≤ 1000000) := by omega
    rcases hb with ⟨b1, b2⟩ | ⟨b1, b2⟩ | ⟨b1, b2⟩
    all_goals
      by_cases k1 : y.kind = 1
      · cases hg : gCls y.cls
        all_goals
          go_enter Tryz.func144, Tryz.ntmps144
          go_wp2_with (go_at_call 141; refine (goodClass_any y.cls _ hcl).mono ?_; rintro e w' ⟨rfl, rfl⟩)
          go_ret
          exact ⟨ret_bool (fields_fin y true false false false _ (by simp [k1]) (by simp [k1]) (by simp [k1]) (by simp [k1]) (by simp [hg])), B1 _⟩
      by_cases k2 : y.kind = 2
      · go_enter Tryz.func144, Tryz.ntmps144
        go_wp2
        go_ret
        exact ⟨ret_bool (fields_fin y false true false false _ (by simp [k2]) (by simp [k2]) (by simp [k2]) (by simp [k2]) (by simp [he, b1, b2] <;> intros <;> omega)), B1 _⟩
      by_cases k3 : y.kind = 3
      · go_enter Tryz.func144, Tryz.ntmps144
        go_wp2
        go_ret
        exact ⟨ret_bool (fields_fin y false false true false _ (by simp [k3]) (by simp [k3]) (by simp [k3]) (by simp [k3]) (by simp [he, b1, b2] <;> intros <;> omega)), B1 _⟩
      by_cases k4 : y.kind = 4
      · by_cases z0 : y.k = 0
        · first
          | (exfalso; omega)
          | (go_enter Tryz.func144, Tryz.ntmps144
             go_wp2
             go_ret
             exact ⟨ret_bool (fields_fin y false false false true _ (by simp [k4]) (by simp [k4]) (by simp [k4]) (by simp [k4]) (by simp [he, z0])), (Below.refl _ _).alloc (Nat.le_refl _) _⟩)
        · go_enter Tryz.func144, Tryz.ntmps144
          go_wp2
          go_ret
          exact ⟨ret_bool (fields_fin y false false false true _ (by simp [k4]) (by simp [k4]) (by simp [k4]) (by simp [k4]) (by simp [he, z0])), (Below.refl _ _).alloc (Nat.le_refl _) _⟩
      · go_enter Tryz.func144, Tryz.ntmps144
        go_wp2
        go_ret
        exact ⟨ret_bool (fields_fin y false false false false _ (by simpa using k1) (by simpa using k2) (by simpa using k3) (by simpa using k4) rfl), B1 _⟩
end Go.Proofs.YtjjjagepnnbebaaGreatDoor

namespace Go.Proofs.YtjjjagepnnbebaaGreatDoor
open Go.RowKit
attribute [local go_sem ↓] Go.wp_at_zero Go.wp_at_succ

set_option maxHeartbeats 1600000 in
theorem actRight_any (y : Ac) (a_args : Option Addr) (c_args : Nat) (a_s : Option Addr) (c_s : Nat) (S : List Sp) (nx : Nat) {q q' : Option Nat} (w : World) (h_args : IntsAt q w a_args y.args) (hv : SpsAt q' w a_s S) (hl : S.length ≤ 60) (hcl : y.cls.size ≤ maxLen) (hal : y.args.length ≤ 1048576) (hnx : nx ≤ 60) :
    Calls Tryz.prog 99 #[.agg #[.int .i64 y.kind, .int .i64 y.k, .string y.cls, .slice a_args y.args.length c_args], .slice a_s S.length c_s, .int .i64 (nx : Int)] w fun e w' =>
      (∃ v : Int, e = .returned (.tuple #[.int .i64 v, .bool (gAc S y nx).isSome]) ∧ ∀ n, gAc S y nx = some n → v = (n : Int) ∧ n ≤ 60) ∧ Below w.heap.size w w' := by
  have B0 : ∀ o, Below w.heap.size w (w.alloc o) := fun o => (Below.refl _ _).alloc (Nat.le_refl _) _
  obtain ⟨G⟩ : Nonempty (Hid (gAc S y nx = if fieldsOk y && decide (y.args.length ≤ 6) then argsGo S y.args nx else none)) := ⟨rfl⟩
  cases hfo : fieldsOk y
  · have HN : Hid (gAc S y nx = none) := show gAc S y nx = none from by rw [G.out, hfo]; rfl
    go_enter Tryz.func99, Tryz.ntmps99
    go_wp2_with (go_at_call 144; refine (rightFields_any y a_args c_args _ hcl).mono ?_; rintro e w' ⟨rfl, hb'⟩)
    refine bodyPost_ret (v := .tuple #[.int .i64 (nx : Int), .bool false]) (by simp [results, Tryz.results99, go_sem]) rfl ⟨⟨nx, by rw [HN.out]; rfl, fun n h => (by rw [HN.out] at h; cases h)⟩, (B0 _).trans (hb'.mono (by simp))⟩
  by_cases hn : 6 < y.args.length
  · have hn' : (6 : Int) < (y.args.length : Int) := by omega
    have HN : Hid (gAc S y nx = none) := show gAc S y nx = none from by rw [G.out, hfo, decide_eq_false (by omega)]; rfl
    go_enter Tryz.func99, Tryz.ntmps99
    go_wp2_with (go_at_call 144; refine (rightFields_any y a_args c_args _ hcl).mono ?_; rintro e w' ⟨rfl, hb'⟩; have q3 : w'.cell? ⟨w.heap.size, 3, none⟩ = some (.slice a_args y.args.length c_args) := cell_below hb' (by simp [go_sem]))
    refine bodyPost_ret (v := .tuple #[.int .i64 (nx : Int), .bool false]) (by simp [results, Tryz.results99, go_sem]) rfl ⟨⟨nx, by rw [HN.out]; rfl, fun n h => (by rw [HN.out] at h; cases h)⟩, (B0 _).trans (hb'.mono (by simp))⟩
  · have hn' : ¬ (6 : Int) < (y.args.length : Int) := by omega
    have HG0 : Hid (gAc S y nx = argsGo S y.args nx) := show gAc S y nx = _ from by rw [G.out, hfo, decide_eq_true (by omega)]; rfl
    go_enter Tryz.func99, Tryz.ntmps99
    go_wp2_with (go_at_call 144; refine (rightFields_any y a_args c_args _ hcl).mono ?_; rintro e w' ⟨rfl, hb'⟩; have q3 : w'.cell? ⟨w.heap.size, 3, none⟩ = some (.slice a_args y.args.length c_args) := cell_below hb' (by simp [go_sem]))
    have hB : Below w.heap.size w w' := (B0 _).trans (hb'.mono (by simp))
    clear q3 hb'
    go_loopw [2, 23] (fun n i wr => ∃ (k nk : Nat), k ≤ y.args.length ∧ i = .int .i64 k ∧ n = .int .i64 (nk : Int) ∧ nk ≤ 60 ∧ argsGo S y.args nx = argsGo S (y.args.drop k) nk ∧ Below w.heap.size w wr) (fun _ i _ => y.args.length - (intOf i).toNat)
    case atStart => exact ⟨0, nx, by omega, rfl, rfl, hnx, rfl, hB⟩
    case round =>
      obtain ⟨k, nk, hk, rfl, rfl, hnk, hG, hb⟩ := hrel
      have HG : Hid (gAc S y nx = argsGo S (y.args.drop k) nk) := show gAc S y nx = _ from by rw [HG0.out, hG]
      clear hG
      by_cases hkl : k < y.args.length
      · obtain ⟨v, hvk⟩ : ∃ v, y.args[k]? = some v := ⟨y.args[k], by simp [hkl]⟩
        obtain ⟨b, o, rfl, hq, c0⟩ := (h_args.below hb).get hvk
        have HD : Hid (y.args.drop k = v :: y.args.drop (k + 1)) := drop_cons hvk
        by_cases v0 : v < 0
        · have HN : Hid (gAc S y nx = none) := show gAc S y nx = none from by
            rw [HG.out, HD.out, argsGo_cons, decide_eq_false (by omega)]
            rfl
          go_wp2
          refine bodyPost_ret (v := .tuple #[.int .i64 (nk : Int), .bool false]) (by simp [results, Tryz.results99, go_sem]) rfl ⟨⟨nk, by rw [HN.out]; rfl, fun n h => (by rw [HN.out] at h; cases h)⟩, hb⟩
        · by_cases v1 : (S.length : Int) ≤ v
          · have HN : Hid (gAc S y nx = none) := show gAc S y nx = none from by
              rw [HG.out, HD.out, argsGo_cons, decide_eq_false (p := v < (S.length : Int)) (by omega)]
              simp
            go_wp2
            refine bodyPost_ret (v := .tuple #[.int .i64 (nk : Int), .bool false]) (by simp [results, Tryz.results99, go_sem]) rfl ⟨⟨nk, by rw [HN.out]; rfl, fun n h => (by rw [HN.out] at h; cases h)⟩, hb⟩
          · obtain ⟨vn, rfl⟩ := Int.eq_ofNat_of_zero_le (show 0 ≤ v by omega)
            have hvn : vn < S.length := by omega
            obtain ⟨s, hs⟩ : ∃ s, S[vn]? = some s := ⟨S[vn], by simp⟩
            obtain ⟨b', o', rfl, hbw, d0, d1⟩ := (hv.below hb).get hs
            have z1 : ¬ S.length ≤ vn := by omega
            cases e3 : ((s.1 : Int) != (nk : Int))
            · have HN : Hid (gAc S y nx = argsGo S (y.args.drop (k + 1)) (vn + 1)) := show gAc S y nx = _ from by
                have : s.1 = nk := by (simp at e3; omega)
                rw [HG.out, HD.out, argsGo_cons, decide_eq_true (by omega), decide_eq_true (by omega), Int.toNat_natCast, hs, Option.getD_some, decide_eq_true this]
                rfl
              go_wp2
              go_roundw
              case rel =>
                exact ⟨k + 1, vn + 1, by omega, by go_num, by go_num, by omega, by rw [← HG0.out, HN.out], hb⟩
              case measure => simp [intOf]; omega
            · have HN : Hid (gAc S y nx = none) := show gAc S y nx = none from by
                have : ¬ s.1 = nk := by (simp at e3; omega)
                rw [HG.out, HD.out, argsGo_cons, Int.toNat_natCast, hs, Option.getD_some, decide_eq_false this]
                simp
              go_wp2
              refine bodyPost_ret (v := .tuple #[.int .i64 (nk : Int), .bool false]) (by simp [results, Tryz.results99, go_sem]) rfl ⟨⟨nk, by rw [HN.out]; rfl, fun n h => (by rw [HN.out] at h; cases h)⟩, hb⟩
      · have HN : Hid (gAc S y nx = some nk) := show gAc S y nx = _ from by
          rw [HG.out, List.drop_eq_nil_of_le (by omega)]
          rfl
        go_wp2
        refine bodyPost_ret (v := .tuple #[.int .i64 (nk : Int), .bool true]) (by simp [results, Tryz.results99, go_sem]) rfl ⟨⟨nk, by rw [HN.out]; rfl, fun n h => (by rw [HN.out] at h; injection h with h; subst h; exact ⟨rfl, hnk⟩)⟩, hb⟩
end Go.Proofs.YtjjjagepnnbebaaGreatDoor

namespace Go.Proofs.YtjjjagepnnbebaaGreatDoor
open Go.RowKit
attribute [local go_sem ↓] Go.wp_at_zero Go.wp_at_succ

def rest (x : Ru) : Option Nat := if (spansGo [] x.exprs).length < x.exprs.length then some ((spansGo [] x.exprs).length + 1) else actsGo (spansGo [] x.exprs) x.acts 0 1
theorem shape_go (x : Ru) (h : headOk x = true) : shape x = match firstBad gPt x.pats 1 with | some i => some i | none => rest x := by
  unfold shape rest
  rw [if_pos h]
  cases firstBad gPt x.pats 1 <;> rfl
theorem actsGo_cons (S : List Sp) (a : Ac) (r : List Ac) (nx k : Nat) : actsGo S (a :: r) nx k = match gAc S a nx with | none => some k | some nx' => actsGo S r nx' (k + 1) := rfl

set_option maxHeartbeats 3200000 in
theorem shape_any (x : Ru) (a_pats : Option Addr) (c_pats : Nat) (a_exprs : Option Addr) (c_exprs : Nat) (a_acts : Option Addr) (c_acts : Nat) {q : Option Nat} (w : World) (h_pats : PtsAt q w a_pats x.pats) (h_exprs : ExsAt q w a_exprs x.exprs) (h_acts : AcsAt q w a_acts x.acts) (hle : x.le 1048576) (ho : OpsOk x.exprs) :
    Calls Tryz.prog 51 #[.agg #[.string x.name, .int .i64 x.sal, .slice a_pats x.pats.length c_pats, .slice a_exprs x.exprs.length c_exprs, .slice a_acts x.acts.length c_acts]] w fun e w' =>
      (∃ i : Int, e = .returned (.tuple #[.int .i64 i, .bool (shape x).isNone]) ∧ ∀ n, shape x = some n → i = (n : Int)) ∧ Below w.heap.size w w' := by
  obtain ⟨hsn0, hsp, hse, hsa⟩ := hle
  have hsn : x.name.size ≤ maxLen := Nat.le_trans hsn0 mega_le
  have hpl := hsp.1
  have hel := hse.1
  have hal := hsa.1
  have B0 : ∀ o, Below w.heap.size w (w.alloc o) := fun o => (Below.refl _ _).alloc (Nat.le_refl _) _
  cases hg : gSym x.name.data.toList
  · have HN : Hid (shape x = some 0) := show shape x = some 0 from by simp [shape, headOk, hg]
    go_enter Tryz.func51, Tryz.ntmps51
    go_wp2_with (go_at_call 96; refine (goodSymbol_any x.name _ hsn).mono ?_; rintro e w' ⟨rfl, rfl⟩)
    refine bodyPost_ret (v := .tuple #[.int .i64 0, .bool false]) (by simp [results, Tryz.results51, go_sem]) rfl ⟨⟨0, by rw [HN.out]; rfl, fun i h => (by rw [HN.out] at h; injection h with h; subst h; rfl)⟩, B0 _⟩
  by_cases l6 : 6 < x.pats.length
  · have l6' : (6 : Int) < (x.pats.length : Int) := by omega
    have HN : Hid (shape x = some 0) := show shape x = some 0 from by simp [shape, headOk]; omega
    go_enter Tryz.func51, Tryz.ntmps51
    go_wp2_with (go_at_call 96; refine (goodSymbol_any x.name _ hsn).mono ?_; rintro e w' ⟨rfl, rfl⟩)
    refine bodyPost_ret (v := .tuple #[.int .i64 0, .bool false]) (by simp [results, Tryz.results51, go_sem]) rfl ⟨⟨0, by rw [HN.out]; rfl, fun i h => (by rw [HN.out] at h; injection h with h; subst h; rfl)⟩, B0 _⟩
  have l6' : ¬ (6 : Int) < (x.pats.length : Int) := by omega
  by_cases l8 : 8 < x.acts.length
  · have l8' : (8 : Int) < (x.acts.length : Int) := by omega
    have HN : Hid (shape x = some 0) := show shape x = some 0 from by simp [shape, headOk]; omega
    go_enter Tryz.func51, Tryz.ntmps51
    go_wp2_with (go_at_call 96; refine (goodSymbol_any x.name _ hsn).mono ?_; rintro e w' ⟨rfl, rfl⟩)
    refine bodyPost_ret (v := .tuple #[.int .i64 0, .bool false]) (by simp [results, Tryz.results51, go_sem]) rfl ⟨⟨0, by rw [HN.out]; rfl, fun i h => (by rw [HN.out] at h; injection h with h; subst h; rfl)⟩, B0 _⟩
  have l8' : ¬ (8 : Int) < (x.acts.length : Int) := by omega
  by_cases l60 : 60 < x.exprs.length
  · have l60' : (60 : Int) < (x.exprs.length : Int) := by omega
    have HN : Hid (shape x = some 0) := show shape x = some 0 from by simp [shape, headOk]; omega
    go_enter Tryz.func51, Tryz.ntmps51
    go_wp2_with (go_at_call 96; refine (goodSymbol_any x.name _ hsn).mono ?_; rintro e w' ⟨rfl, rfl⟩)
    refine bodyPost_ret (v := .tuple #[.int .i64 0, .bool false]) (by simp [results, Tryz.results51, go_sem]) rfl ⟨⟨0, by rw [HN.out]; rfl, fun i h => (by rw [HN.out] at h; injection h with h; subst h; rfl)⟩, B0 _⟩
  have l60' : ¬ (60 : Int) < (x.exprs.length : Int) := by omega
  have HH : Hid (shape x = match firstBad gPt x.pats 1 with | some i => some i | none => rest x) := shape_go x (by simp [headOk, hg]; omega)
  go_enter Tryz.func51, Tryz.ntmps51
  go_wp2_with (go_at_call 96; refine (goodSymbol_any x.name _ hsn).mono ?_; rintro e w' ⟨rfl, rfl⟩)
  go_loopw [35] (fun i wr => ∃ (k : Nat), k ≤ x.pats.length ∧ i = .int .i64 k ∧ (shape x = match firstBad gPt (x.pats.drop k) (k + 1) with | some i => some i | none => rest x) ∧ RuBox wr w.heap.size x a_pats c_pats a_exprs c_exprs a_acts c_acts ∧ Below w.heap.size w wr) (fun i _ => x.pats.length - (intOf i).toNat)
  case atStart => exact ⟨0, by omega, rfl, HH.out, RuBox.made _ _ _ _ _ _ _ _ _, B0 _⟩
  case round =>
    obtain ⟨k, hk, rfl, hG, hbox, hb⟩ := hrel
    have HG : Hid (shape x = match firstBad gPt (x.pats.drop k) (k + 1) with | some i => some i | none => rest x) := hG
    clear hG
    by_cases hkl : k < x.pats.length
    · obtain ⟨p, hpk⟩ : ∃ p, x.pats[k]? = some p := ⟨x.pats[k], by simp [hkl]⟩
      obtain ⟨b, o, a_terms, c_terms, rfl, hq, c0, c1, c2, h_terms⟩ := (h_pats.below hb).get hpk
      have hpp := hsp.2 p (List.mem_of_getElem? hpk)
      have HD : Hid (x.pats.drop k = p :: x.pats.drop (k + 1)) := drop_cons hpk
      have B1 : ∀ o, Below wr.heap.size wr (wr.alloc o) := fun o => (Below.refl _ _).alloc (Nat.le_refl _) _
      cases hgp : gPt p
      all_goals
        go_wp2_with (go_at_call 97; refine (patRight_any p a_terms c_terms _ (h_terms.below (B1 _)) (Nat.le_trans hpp.1 mega_le) (hpp.2.mono mega_le (Tm.mono mega_le)) hpp.2.1).mono ?_; rintro e w1 ⟨rfl, hb1⟩)
      · have HN : Hid (shape x = some (k + 1)) := show shape x = _ from by rw [HG.out, HD.out, firstBad_cons, hgp]; rfl
        have hW1 : Below wr.heap.size wr w1 := (B1 _).trans (hb1.mono (by simp))
        refine bodyPost_ret (v := .tuple #[.int .i64 ((k : Int) + 1), .bool false]) (by simp [results, Tryz.results51, go_sem]) rfl ⟨⟨(k : Int) + 1, by rw [HN.out]; rfl, fun i h => (by rw [HN.out] at h; injection h with h; subst h; simp)⟩, hb.trans (hW1.mono hb.size)⟩
      · have HN : Hid (shape x = match firstBad gPt (x.pats.drop (k + 1)) (k + 1 + 1) with | some i => some i | none => rest x) := show shape x = _ from by rw [HG.out, HD.out, firstBad_cons, hgp]; rfl
        have hW1 : Below wr.heap.size wr w1 := (B1 _).trans (hb1.mono (by simp))
        go_roundw
        case rel => exact ⟨k + 1, by omega, by go_num, HN.out, hbox.below hW1, hb.trans (hW1.mono hb.size)⟩
        case measure => simp [intOf]; omega
    · have HR : Hid (shape x = rest x) := show shape x = rest x from by rw [HG.out, List.drop_eq_nil_of_le (by omega)]; rfl
      have HBX := hideIt hbox
      obtain ⟨q0, q1, q2, q3, q4⟩ := hbox
      obtain ⟨HSp, HSl⟩ := spansGo_spans (es := x.exprs) (l := x.exprs) (Spans.nil x.exprs) rfl
      have hSl := HSp.1
      have HS := hideIt HSp
      clear HSp HSl
      by_cases hfull : (spansGo [] x.exprs).length = x.exprs.length
      · have HF : Hid (rest x = actsGo (spansGo [] x.exprs) x.acts 0 1) := show rest x = _ from by unfold rest; rw [if_neg (by omega)]
        have hdt : decide ((spansGo [] x.exprs).length = x.exprs.length) = true := decide_eq_true hfull
        have hfl := hideIt hfull
        clear hfull
        go_wp2_with (go_at_call 98; refine (spans_any x a_pats c_pats a_exprs c_exprs a_acts c_acts _ (h_exprs.below hb) (by omega) (hse.mono mega_le (Ex.mono mega_le)) ho).mono ?_; rintro e w1 ⟨⟨a_s, c_s, rfl, hsps⟩, hb1⟩; have r4 := cell_below hb1 q4)
        have hbx1 := HBX.out.below hb1
        have hB1 : Below w.heap.size w w1 := hb.trans (hb1.mono hb.size)
        clear q0 q1 q2 q3 q4 r4 HBX hb1 hdt
        go_loopw [7, 59] (fun nv i wr' => ∃ (k nk : Nat), k ≤ x.acts.length ∧ i = .int .i64 k ∧ nv = .int .i64 (nk : Int) ∧ nk ≤ 60 ∧ shape x = actsGo (spansGo [] x.exprs) (x.acts.drop k) nk (k + 1) ∧ RuBox wr' w.heap.size x a_pats c_pats a_exprs c_exprs a_acts c_acts ∧ SpsAt none wr' a_s (spansGo [] x.exprs) ∧ Below w.heap.size w wr') (fun _ i _ => x.acts.length - (intOf i).toNat)
        case atStart => exact ⟨0, 0, by omega, rfl, rfl, by omega, by rw [HR.out, HF.out]; rfl, hbx1, hsps, hB1⟩
        case round =>
          obtain ⟨k, nk, hk, rfl, rfl, hnk, hG, hbox2, hsp2, hb2⟩ := hrel
          have HG2 := hideIt hG
          have HBX2 := hideIt hbox2
          clear hG
          by_cases hkl2 : k < x.acts.length
          · obtain ⟨y, hyk⟩ : ∃ y, x.acts[k]? = some y := ⟨x.acts[k], by simp [hkl2]⟩
            obtain ⟨b, o, a_args, c_args, rfl, hq, c0, c1, c2, c3, h_args⟩ := (h_acts.below hb2).get hyk
            have hyy := hsa.2 y (List.mem_of_getElem? hyk)
            have HD : Hid (x.acts.drop k = y :: x.acts.drop (k + 1)) := drop_cons hyk
            have B1 : ∀ o, Below wr.heap.size wr (wr.alloc o) := fun o => (Below.refl _ _).alloc (Nat.le_refl _) _
            clear hbox2
            cases hga : gAc (spansGo [] x.exprs) y nk with
            | none =>
              have HN : Hid (shape x = some (k + 1)) := show shape x = _ from by rw [HG2.out, HD.out, actsGo_cons, hga]
              have hAR := hideIt (fun w h1 h2 => actRight_any y a_args c_args a_s c_s (spansGo [] x.exprs) nk (q := q) (q' := none) w h1 h2 (by omega) (Nat.le_trans hyy.1 mega_le) hyy.2 hnk)
              rw [hga] at hAR
              go_wp2_with (go_at_call 99; refine (hAR.out _ (h_args.below (B1 _)) (hsp2.below (B1 _))).mono ?_; rintro e w3 ⟨⟨v, rfl, hvn⟩, hb3⟩)
              have hW3 : Below wr.heap.size wr w3 := (B1 _).trans (hb3.mono (by simp))
              refine bodyPost_ret (v := .tuple #[.int .i64 ((k : Int) + 1), .bool false]) (by simp [results, Tryz.results51, go_sem]) rfl ⟨⟨(k : Int) + 1, by rw [HN.out]; rfl, fun i h => (by rw [HN.out] at h; injection h with h; subst h; simp)⟩, hb2.trans (hW3.mono hb2.size)⟩
            | some nk' =>
              have HN : Hid (shape x = actsGo (spansGo [] x.exprs) (x.acts.drop (k + 1)) nk' (k + 1 + 1)) := show shape x = _ from by rw [HG2.out, HD.out, actsGo_cons, hga]
              have hAR := hideIt (fun w h1 h2 => actRight_any y a_args c_args a_s c_s (spansGo [] x.exprs) nk (q := q) (q' := none) w h1 h2 (by omega) (Nat.le_trans hyy.1 mega_le) hyy.2 hnk)
              rw [hga] at hAR
              go_wp2_with (go_at_call 99; refine (hAR.out _ (h_args.below (B1 _)) (hsp2.below (B1 _))).mono ?_; rintro e w3 ⟨⟨v, rfl, hvn⟩, hb3⟩; obtain ⟨rfl, hn60⟩ := hvn nk' rfl)
              have hW3 : Below wr.heap.size wr w3 := (B1 _).trans (hb3.mono (by simp))
              go_roundw
              case rel => exact ⟨k + 1, nk', by omega, by go_num, rfl, hn60, HN.out, HBX2.out.below hW3, hsp2.below hW3, hb2.trans (hW3.mono hb2.size)⟩
              case measure => simp [intOf]; omega
          · have e0 : x.acts.drop k = [] := List.drop_eq_nil_of_le (by omega)
            obtain ⟨q0, q1, q2, q3, q4⟩ := hbox2
            have hkk : k = x.acts.length := by omega
            have HE : Hid (shape x = if nk = (spansGo [] x.exprs).length then none else some (k + 1)) := show shape x = _ from by rw [HG2.out, e0]; rfl
            go_wp2
            by_cases hfin : nk = (spansGo [] x.exprs).length
            · refine bodyPost_ret (v := .tuple #[.int .i64 ((x.acts.length : Int) + 1), .bool true]) (by simp [results, Tryz.results51, go_sem, hfin]) rfl ⟨⟨_, by rw [HE.out, if_pos hfin]; rfl, fun i h => (by rw [HE.out, if_pos hfin] at h; cases h)⟩, hb2⟩
            · have hfin' : ((nk : Int) == ((spansGo [] x.exprs).length : Int)) = false := by simp; omega
              refine bodyPost_ret (v := .tuple #[.int .i64 ((x.acts.length : Int) + 1), .bool false]) (by simp [results, Tryz.results51, go_sem]; omega) rfl ⟨⟨_, by rw [HE.out, if_neg hfin]; rfl, fun i h => (by rw [HE.out, if_neg hfin] at h; injection h with h; subst h; simp; omega)⟩, hb2⟩
      · have HF : Hid (rest x = some ((spansGo [] x.exprs).length + 1)) := show rest x = _ from by unfold rest; rw [if_pos (by omega)]
        have hdt : decide ((spansGo [] x.exprs).length = x.exprs.length) = false := decide_eq_false hfull
        have hfl := hideIt hfull
        clear hfull
        go_wp2_with (go_at_call 98; refine (spans_any x a_pats c_pats a_exprs c_exprs a_acts c_acts _ (h_exprs.below hb) (by omega) (hse.mono mega_le (Ex.mono mega_le)) ho).mono ?_; rintro e w1 ⟨⟨a_s, c_s, rfl, hsps⟩, hb1⟩)
        refine bodyPost_ret (v := .tuple #[.int .i64 (((spansGo [] x.exprs).length : Int) + 1), .bool false]) (by simp [results, Tryz.results51, go_sem]) rfl ⟨⟨((spansGo [] x.exprs).length : Int) + 1, by rw [HR.out, HF.out]; rfl, fun i h => (by rw [HR.out, HF.out] at h; injection h with h; subst h; simp)⟩, hb.trans (hb1.mono hb.size)⟩
end Go.Proofs.YtjjjagepnnbebaaGreatDoor

namespace Go.Proofs.YtjjjagepnnbebaaGreatDoor
open Go.RowKit Go.Maps
attribute [local go_sem ↓] Go.wp_at_zero Go.wp_at_succ

/-- The empty struct, as an element. -/
def unitR (v : Value) : Option (DataW Unit × List MemPlace) :=
  match v with
  | .agg a => if a.size = 0 then some (.lit (.bool true), []) else none
  | _ => none
theorem unitR_inv {v : Value} {z : DataW Unit × List MemPlace} (h : unitR v = some z) : v = .agg #[] := by
  unfold unitR at h
  split at h
  · rename_i a
    split at h
    · rename_i h0
      rw [Array.eq_empty_of_size_eq_zero h0]
    · cases h
  · cases h
theorem lawS : Keyed Tryz.prog 9 := string_keyed Tryz.underlying9

/-- The map has just the names of known. -/
def NInv (known : List ByteArray) (D : DataW Unit) : Prop := ∀ s : ByteArray, s.size ≤ maxLen → has D (.string s.data.toList) = memB s known
theorem NInv.start : NInv [] (.map []) := fun _ _ => rfl
theorem memB_snoc (s v : ByteArray) (known : List ByteArray) : memB s (known ++ [v]) = (memB s known || decide (v = s)) := by
  simp [memB, List.any_append]
theorem NInv.put {known : List ByteArray} {D : DataW Unit} {v : ByteArray} (h : NInv known D) (hm : IsMap D) (d : DataW Unit) : NInv (known ++ [v]) (D.put (.string v.data.toList) d) := by
  intro s hs
  rw [memB_snoc]
  by_cases he : v = s
  · subst he
    rw [has_put_same hm (k := .string v.data.toList) trivial d, decide_eq_true rfl, Bool.or_true]
  · rw [has_put_other (fun e => he (by injection e with e; exact (Go.WideShapes.bytes_inj e).symm)) d, h s hs, decide_eq_false he, Bool.or_false]

abbrev NMap (w : World) (b n : Nat) (D : DataW Unit) : Prop := w.ownsMap Tryz.prog 9 unitR b n D
theorem zeroU (w : World) : (zeroValue 205).run Tryz.prog w = .ok (.agg #[]) w := by kernel_rfl

theorem look_name {w : World} {b n : Nat} {D : DataW Unit} {known : List ByteArray} (h : NMap w b n D) (hI : NInv known D) {s : ByteArray} (hs : s.size ≤ maxLen) :
    (Instr.lookup 158 (.map (some b)) (.string s) true).run Tryz.prog w = .ok (.tuple #[.agg #[], .bool (memB s known)]) w := by
  obtain ⟨v, ps, hrun, hv⟩ := h.look_ok lawS (t := 158) Tryz.underlying158 (zeroU w) (show unitR (.agg #[]) = some (.lit (.bool true), []) from rfl) (Go.WideMaps.keyOf_string_mk Tryz.underlying9 hs)
  rw [hrun, hI s hs, unitR_inv hv]

set_option maxHeartbeats 400000 in
theorem have_any (b n : Nat) (D : DataW Unit) (known : List ByteArray) (s : ByteArray) (w : World) (h : NMap w b n D) (hI : NInv known D) (hs : s.size ≤ maxLen) :
    Calls Tryz.prog 146 #[.map (some b), .string s] w fun e w' => e = .returned (.bool (memB s known)) ∧ Below w.heap.size w w' := by
  have hl := look_name h hI hs
  go_enter Tryz.func146, Tryz.ntmps146
  go_wp2
  go_ret
  exact ⟨rfl, (Below.refl _ _).alloc (Nat.le_refl _) _⟩

theorem hideHave (b n : Nat) (D : DataW Unit) (known : List ByteArray) (s : ByteArray) (hI : NInv known D) (hs : s.size ≤ maxLen) : Hid (∀ w, NMap w b n D → Calls Tryz.prog 146 #[.map (some b), .string s] w fun e w' => e = .returned (.bool (memB s known)) ∧ Below w.heap.size w w') :=
  fun w h => have_any b n D known s w h hI hs

set_option maxHeartbeats 800000 in
theorem cover_any (b n : Nat) (D : DataW Unit) (known : List ByteArray) (a : Option Addr) (c : Nat) (es : List Ex) (w : World) {q : Option Nat} (h : NMap w b n D) (hI : NInv known D) (hv : ExsAt q w a es) (hl : es.length ≤ 1048576) (hs : ∀ e ∈ es, e.var.size ≤ maxLen) :
    Calls Tryz.prog 101 #[.map (some b), .slice a es.length c] w fun e w' => e = .returned (.bool (es.all (knownE known))) ∧ Below w.heap.size w w' := by
  go_enter Tryz.func101, Tryz.ntmps101
  go_wp2
  go_loopw [9] (fun i wr => ∃ (k : Nat), k ≤ es.length ∧ i = .int .i64 k ∧ es.all (knownE known) = (es.drop k).all (knownE known) ∧ Below w.heap.size w wr) (fun i _ => es.length - (intOf i).toNat)
  case atStart => exact ⟨0, by omega, rfl, rfl, Below.refl _ _⟩
  case round =>
    obtain ⟨k, hk, rfl, hG, hb⟩ := hrel
    have HG : Hid (es.all (knownE known) = (es.drop k).all (knownE known)) := hG
    clear hG
    by_cases hkl : k < es.length
    · obtain ⟨e, hek⟩ : ∃ e, es[k]? = some e := ⟨es[k], by simp [hkl]⟩
      obtain ⟨b', o, rfl, hq, c0, c1, c2, c3, c4, c5, c6, c7⟩ := (hv.below hb).get hek
      have HD : Hid (es.drop k = e :: es.drop (k + 1)) := drop_cons hek
      have hse := hs e (List.mem_of_getElem? hek)
      have hbl := h.lt
      have HM : Hid (NMap wr b n D) := show NMap wr b n D from by
        obtain ⟨m1, m2, m3, m4⟩ := h
        exact ⟨m1, m2, (hb.block b hbl).trans m3, m4⟩
      have B1 : ∀ o, Below w.heap.size w (wr.alloc o) := fun o => hb.alloc hb.size _
      cases k1 : (e.kind == 1)
      · have HK : Hid (knownE known e = true) := show knownE known e = true from by simp [knownE, k1]
        go_wp2
        go_roundw
        case rel => exact ⟨k + 1, by omega, by go_num, by rw [HG.out, HD.out, List.all_cons, HK.out]; rfl, B1 _⟩
        case measure => simp [intOf]; omega
      · have HK : Hid (knownE known e = memB e.var known) := show knownE known e = _ from by simp [knownE, k1]
        cases hm : memB e.var known
        all_goals
          have hH := hideHave b n D known e.var hI hse
          rw [hm] at hH
          go_wp2_with (go_at_call 146; refine (hH.out _ (HM.out.alloc _)).mono ?_; rintro e' w1 ⟨rfl, hb1⟩)
        · go_ret
          exact ⟨ret_bool (by rw [HG.out, HD.out, List.all_cons, HK.out, hm]; rfl), (B1 _).trans (hb1.mono (B1 _).size)⟩
        · go_roundw
          case rel => exact ⟨k + 1, by omega, by go_num, by rw [HG.out, HD.out, List.all_cons, HK.out, hm]; rfl, (B1 _).trans (hb1.mono (B1 _).size)⟩
          case measure => simp [intOf]; omega
    · go_wp2
      go_ret
      exact ⟨ret_bool (by rw [HG.out, List.drop_eq_nil_of_le (by omega)]; rfl), hb⟩
end Go.Proofs.YtjjjagepnnbebaaGreatDoor

namespace Go.Proofs.YtjjjagepnnbebaaGreatDoor
open Go.RowKit Go.Maps
attribute [local go_sem ↓] Go.wp_at_zero Go.wp_at_succ

set_option maxHeartbeats 800000 in
set_option maxRecDepth 100000 in
theorem clone_any (b n : Nat) (D : DataW Unit) (w : World) (h : NMap w b n D) :
    Calls Tryz.prog 145 #[.map (some b)] w fun e w' => e = .returned (.map (some w.heap.size)) ∧ NMap w' w.heap.size n D ∧ Below w.heap.size w w' := by
  obtain ⟨es, clock, hb, F, hs, hD⟩ := h
  have hq := fun w => run_eql_map_nil_sl (P := Tryz.prog) w 158 _ _ (some b) Tryz.underlying158
  go_enter Tryz.func145, Tryz.ntmps145
  go_wp2
  rw [run_callFunc_extern Tryz.func166 (by kernel_rfl) (by kernel_rfl) (by kernel_rfl) (e := Extern.MapsClone.clone) (by kernel_rfl), run_maps_clone_sl w 158 hb]
  simp only [Result.andThen]
  rw [Oper.upon_value]
  go_wp2
  rw [run_typeAssert_map_sl _ 158 _ _ _ _ Tryz.underlying158]
  simp only [Result.andThen]
  rw [Oper.upon_value]
  go_wp2
  go_ret
  exact ⟨rfl, ⟨es, clock, (MapKept.heap_alloc w _).1, F, hs, hD⟩, (Below.refl _ w).alloc (Nat.le_refl _) _⟩

theorem termsGo_cons (t : Tm) (r : List Tm) (here : List ByteArray) : termsGo (t :: r) here = if asks t && !memB t.var here then none else termsGo r (if t.kind == 2 then here ++ [t.var] else here) := rfl
theorem hideH {p : Prop} (h : p) : Hid p := h
theorem ownsM {w w' : World} {b n : Nat} {D : DataW Unit} (h : NMap w b n D) (hb : Below w.heap.size w w') : NMap w' b n D := by
  have hl := h.lt
  obtain ⟨es, clock, h1, h2⟩ := h
  exact ⟨es, clock, (hb.block b hl).trans h1, h2⟩
theorem cell_grown {w w' : World} {m b o : Nat} (h : w.grownBy w' (some m)) (hne : b ≠ m) (hl : b < w.heap.size) : w'.cell? ⟨b, o, none⟩ = w.cell? ⟨b, o, none⟩ := by
  unfold World.cell?
  rw [h.block b hl (by intro e; first | exact hne e | (injection e with e; first | exact hne e | exact hne e.symm))]

set_option maxHeartbeats 3200000 in
theorem knows_pos (x : Pt) (a : Option Addr) (c b n : Nat) (D : DataW Unit) (known : List ByteArray) {q : Option Nat} (w0 w : World) (hb0 : Below w0.heap.size w0 w) (hv : TmsAt q w0 a x.terms) (hs : ListLe Tm.le maxLen x.terms) (hl : x.terms.length ≤ 1048576) (hown0 : NMap w b n D) (hI : NInv known D) (hb1 : w0.heap.size ≤ b) (hn : n ≤ 1048576) (hneg : x.neg = false) :
    Calls Tryz.prog 100 #[.agg #[.bool x.neg, .string x.cls, .slice a x.terms.length c], .map (some b)] w fun e w' =>
      e = .returned (.bool (termsGo x.terms known).isSome) ∧ Below b w w' ∧ ∀ here, termsGo x.terms known = some here → ∃ n' D', n' ≤ n + x.terms.length ∧ NMap w' b n' D' ∧ NInv here D' := by
  have hbw := hown0.lt
  rw [hneg]
  go_enter Tryz.func100, Tryz.ntmps100
  go_wp2
  go_loopw [14] (fun i wr => ∃ (k n' : Nat) (here : List ByteArray) (D' : DataW Unit), k ≤ x.terms.length ∧ i = .int .i64 k ∧ termsGo x.terms known = termsGo (x.terms.drop k) here ∧ n' ≤ n + k ∧ NMap wr (b) n' D' ∧ NInv here D' ∧ Below (b) w wr) (fun i _ => x.terms.length - (intOf i).toNat)
  case atStart => exact ⟨0, n, known, D, by omega, rfl, rfl, by omega, hown0.alloc _, hI, (Below.refl _ _).alloc (by omega) _⟩
  case round =>
    obtain ⟨k, n', here, D', hk, rfl, hG, hn', hown, hI', hb⟩ := hrel
    have HG := hideH hG
    clear hG
    have hbl := hown.lt
    by_cases hkl : k < x.terms.length
    · obtain ⟨t, htk⟩ : ∃ t, x.terms[k]? = some t := ⟨x.terms[k], by simp [hkl]⟩
      obtain ⟨b', o, rfl, hq, c0, c1, c2, c3, c4, c5⟩ := (hv.below (hb0.trans (hb.mono (by omega)))).get htk
      have hst := (hs.2 t (List.mem_of_getElem? htk)).1
      have HD : Hid (x.terms.drop k = t :: x.terms.drop (k + 1)) := drop_cons htk
      have hBa : ∀ o, Below (b) w (wr.alloc o) := fun o => hb.alloc (by have := hb.size; omega) _
      have hOa : ∀ o, NMap (wr.alloc o) (b) n' D' := fun o => hown.alloc o
      by_cases k2 : t.kind = 2
      · have HN : Hid (termsGo x.terms known = termsGo (x.terms.drop (k + 1)) (here ++ [t.var])) := show termsGo x.terms known = _ from by rw [HG.out, HD.out, termsGo_cons]; simp [asks, k2]
        have hI2 := hI'.put (v := t.var) hown.isMap (.lit (.bool true))
        obtain ⟨w2, hrun, ho2, hg2⟩ := (hown.alloc (.cells #[.int .i64 2, .int .i64 t.op, .string t.var, .int .i64 t.val.kind, .int .i64 t.val.num, .string t.val.sym] 95)).update lawS (t := 158) Tryz.underlying158 (by unfold maxLen; omega) (Go.WideMaps.keyOf_string_mk Tryz.underlying9 hst) (show unitR (.agg #[]) = some (.lit (.bool true), []) from rfl)
        have HO2 := hideH ho2
        have HG2 := hideH hg2
        have d0 : w2.cell? ⟨wr.heap.size, 0, none⟩ = some (.int .i64 2) := by
          rw [cell_grown hg2 (by omega) (by simp)]
          simp [go_sem]
        have hBb := hBa (.cells #[.int .i64 2, .int .i64 t.op, .string t.var, .int .i64 t.val.kind, .int .i64 t.val.num, .string t.val.sym] 95)
        have hB2 : Below (b) w w2 := hBb.grown hg2 (by have := hb.size; simp; omega) (fun j hj => by cases hj; omega)
        clear ho2 hg2 hOa hBa
        rw [k2] at c0
        go_wp2
        clear hrun
        go_roundw
        case rel => exact ⟨k + 1, n' + 1, _, _, by omega, by go_num, HN.out, by omega, HO2.out, hI2, hB2⟩
        case measure => simp [intOf]; omega
      · by_cases k3 : t.kind = 3 ∧ t.var.toList.isEmpty = false
        · obtain ⟨k3, v0⟩ := k3
          have hH := hideHave (b) n' D' here t.var hI' hst
          cases hm : memB t.var here
          all_goals
            rw [hm] at hH
            go_wp2_with (go_at_call 146; refine (hH.out _ (hOa _)).mono ?_; rintro e' w1 ⟨rfl, hb1⟩)
          · have HN : Hid (termsGo x.terms known = none) := show termsGo x.terms known = none from by rw [HG.out, HD.out, termsGo_cons]; simp [asks, k3, isE, hm]; intro h; simp [h] at v0
            go_ret
            exact ⟨ret_bool (by rw [HN.out]; rfl), (hBa _).trans (hb1.mono (by simp; omega)), fun h e => (by rw [HN.out] at e; cases e)⟩
          · have HN : Hid (termsGo x.terms known = termsGo (x.terms.drop (k + 1)) here) := show termsGo x.terms known = _ from by rw [HG.out, HD.out, termsGo_cons]; simp [k3, hm]
            go_roundw
            case rel => exact ⟨k + 1, n', _, _, by omega, by go_num, HN.out, by omega, ownsM (hOa _) hb1, hI', (hBa _).trans (hb1.mono (by have := (hBa default).size; have := hb.size; simp; omega))⟩
            case measure => simp [intOf]; omega
        · have HN : Hid (termsGo x.terms known = termsGo (x.terms.drop (k + 1)) here) := show termsGo x.terms known = _ from by
            have ha : asks t = false := by
              unfold asks isE
              by_cases h3 : t.kind = 3
              · have : t.var.toList.isEmpty = true := by cases h : t.var.toList.isEmpty <;> simp_all
                simp [this]
              · simp [h3]
            rw [HG.out, HD.out, termsGo_cons, ha]
            simp [k2]
          by_cases h3 : t.kind = 3
          · have hve : t.var.toList.isEmpty = true := by cases h : t.var.toList.isEmpty <;> simp_all
            clear k3
            go_wp2
            go_roundw
            case rel => exact ⟨k + 1, n', _, _, by omega, by go_num, HN.out, by omega, hOa _, hI', hBa _⟩
            case measure => simp [intOf]; omega
          · clear k3
            go_wp2
            go_roundw
            case rel => exact ⟨k + 1, n', _, _, by omega, by go_num, HN.out, by omega, hOa _, hI', hBa _⟩
            case measure => simp [intOf]; omega
    · have HN : Hid (termsGo x.terms known = some here) := show termsGo x.terms known = _ from by
        rw [HG.out, List.drop_eq_nil_of_le (by omega)]
        rfl
      go_wp2
      go_ret
      exact ⟨ret_bool (by rw [HN.out]; rfl), hb, fun h e => (by rw [HN.out] at e; injection e with e; subst e; exact ⟨n', D', by omega, hown, hI'⟩)⟩
end Go.Proofs.YtjjjagepnnbebaaGreatDoor

namespace Go.Proofs.YtjjjagepnnbebaaGreatDoor
open Go.RowKit Go.Maps
attribute [local go_sem ↓] Go.wp_at_zero Go.wp_at_succ

set_option maxHeartbeats 3200000 in
theorem knows_neg (x : Pt) (a : Option Addr) (c b n : Nat) (D : DataW Unit) (known : List ByteArray) {q : Option Nat} (w0 w : World) (hb0 : Below w0.heap.size w0 w) (hv : TmsAt q w0 a x.terms) (hs : ListLe Tm.le maxLen x.terms) (hl : x.terms.length ≤ 1048576) (hown0 : NMap w b n D) (hI : NInv known D) (hn : n ≤ 1048576) (hneg : x.neg = true) :
    Calls Tryz.prog 100 #[.agg #[.bool x.neg, .string x.cls, .slice a x.terms.length c], .map (some b)] w fun e w' =>
      e = .returned (.bool (termsGo x.terms known).isSome) ∧ Below w.heap.size w w' := by
  have hbw := hown0.lt
  rw [hneg]
  go_enter Tryz.func100, Tryz.ntmps100
  have hw0 := hb0.size
  go_wp2_with (go_at_call 145; refine (clone_any b n D _ (hown0.alloc _)).mono ?_; rintro e w1 ⟨rfl, hoc, hbc⟩; have q2 : w1.cell? ⟨w.heap.size, 2, none⟩ = some (.slice a x.terms.length c) := cell_below hbc (by simp [go_sem]))
  have hoc' : NMap w1 (w.heap.size + 1) n D := by simpa using hoc
  have hB1 : Below w.heap.size w w1 := ((Below.refl _ _).alloc (Nat.le_refl _) _).trans (hbc.mono (by simp))
  clear hoc hbc q2 hbw hown0
  go_loopw [14] (fun i wr => ∃ (k n' : Nat) (here : List ByteArray) (D' : DataW Unit), k ≤ x.terms.length ∧ i = .int .i64 k ∧ termsGo x.terms known = termsGo (x.terms.drop k) here ∧ n' ≤ n + k ∧ NMap wr (w.heap.size + 1) n' D' ∧ NInv here D' ∧ Below (w.heap.size) w wr) (fun i _ => x.terms.length - (intOf i).toNat)
  case atStart => exact ⟨0, n, known, D, by omega, rfl, rfl, by omega, hoc', hI, hB1⟩
  case round =>
    obtain ⟨k, n', here, D', hk, rfl, hG, hn', hown, hI', hb⟩ := hrel
    have HG := hideH hG
    clear hG
    have hbl := hown.lt
    by_cases hkl : k < x.terms.length
    · obtain ⟨t, htk⟩ : ∃ t, x.terms[k]? = some t := ⟨x.terms[k], by simp [hkl]⟩
      obtain ⟨b', o, rfl, hq, c0, c1, c2, c3, c4, c5⟩ := (hv.below (hb0.trans (hb.mono (by omega)))).get htk
      have hst := (hs.2 t (List.mem_of_getElem? htk)).1
      have HD : Hid (x.terms.drop k = t :: x.terms.drop (k + 1)) := drop_cons htk
      have hBa : ∀ o, Below (w.heap.size) w (wr.alloc o) := fun o => hb.alloc (by have := hb.size; omega) _
      have hOa : ∀ o, NMap (wr.alloc o) (w.heap.size + 1) n' D' := fun o => hown.alloc o
      by_cases k2 : t.kind = 2
      · have HN : Hid (termsGo x.terms known = termsGo (x.terms.drop (k + 1)) (here ++ [t.var])) := show termsGo x.terms known = _ from by rw [HG.out, HD.out, termsGo_cons]; simp [asks, k2]
        have hI2 := hI'.put (v := t.var) hown.isMap (.lit (.bool true))
        obtain ⟨w2, hrun, ho2, hg2⟩ := (hown.alloc (.cells #[.int .i64 2, .int .i64 t.op, .string t.var, .int .i64 t.val.kind, .int .i64 t.val.num, .string t.val.sym] 95)).update lawS (t := 158) Tryz.underlying158 (by unfold maxLen; omega) (Go.WideMaps.keyOf_string_mk Tryz.underlying9 hst) (show unitR (.agg #[]) = some (.lit (.bool true), []) from rfl)
        have HO2 := hideH ho2
        have HG2 := hideH hg2
        have d0 : w2.cell? ⟨wr.heap.size, 0, none⟩ = some (.int .i64 2) := by
          rw [cell_grown hg2 (by omega) (by simp)]
          simp [go_sem]
        have hBb := hBa (.cells #[.int .i64 2, .int .i64 t.op, .string t.var, .int .i64 t.val.kind, .int .i64 t.val.num, .string t.val.sym] 95)
        have hB2 : Below (w.heap.size) w w2 := hBb.grown hg2 (by have := hb.size; simp; omega) (fun j hj => by cases hj; omega)
        clear ho2 hg2 hOa hBa
        rw [k2] at c0
        go_wp2
        clear hrun
        go_roundw
        case rel => exact ⟨k + 1, n' + 1, _, _, by omega, by go_num, HN.out, by omega, HO2.out, hI2, hB2⟩
        case measure => simp [intOf]; omega
      · by_cases k3 : t.kind = 3 ∧ t.var.toList.isEmpty = false
        · obtain ⟨k3, v0⟩ := k3
          have hH := hideHave (w.heap.size + 1) n' D' here t.var hI' hst
          cases hm : memB t.var here
          all_goals
            rw [hm] at hH
            go_wp2_with (go_at_call 146; refine (hH.out _ (hOa _)).mono ?_; rintro e' w1 ⟨rfl, hb1⟩)
          · have HN : Hid (termsGo x.terms known = none) := show termsGo x.terms known = none from by rw [HG.out, HD.out, termsGo_cons]; simp [asks, k3, isE, hm]; intro h; simp [h] at v0
            go_ret
            exact ⟨ret_bool (by rw [HN.out]; rfl), (hBa _).trans (hb1.mono (by simp; omega))⟩
          · have HN : Hid (termsGo x.terms known = termsGo (x.terms.drop (k + 1)) here) := show termsGo x.terms known = _ from by rw [HG.out, HD.out, termsGo_cons]; simp [k3, hm]
            go_roundw
            case rel => exact ⟨k + 1, n', _, _, by omega, by go_num, HN.out, by omega, ownsM (hOa _) hb1, hI', (hBa _).trans (hb1.mono (by have := (hBa default).size; have := hb.size; simp; omega))⟩
            case measure => simp [intOf]; omega
        · have HN : Hid (termsGo x.terms known = termsGo (x.terms.drop (k + 1)) here) := show termsGo x.terms known = _ from by
            have ha : asks t = false := by
              unfold asks isE
              by_cases h3 : t.kind = 3
              · have : t.var.toList.isEmpty = true := by cases h : t.var.toList.isEmpty <;> simp_all
                simp [this]
              · simp [h3]
            rw [HG.out, HD.out, termsGo_cons, ha]
            simp [k2]
          by_cases h3 : t.kind = 3
          · have hve : t.var.toList.isEmpty = true := by cases h : t.var.toList.isEmpty <;> simp_all
            clear k3
            go_wp2
            go_roundw
            case rel => exact ⟨k + 1, n', _, _, by omega, by go_num, HN.out, by omega, hOa _, hI', hBa _⟩
            case measure => simp [intOf]; omega
          · clear k3
            go_wp2
            go_roundw
            case rel => exact ⟨k + 1, n', _, _, by omega, by go_num, HN.out, by omega, hOa _, hI', hBa _⟩
            case measure => simp [intOf]; omega
    · have HN : Hid (termsGo x.terms known = some here) := show termsGo x.terms known = _ from by
        rw [HG.out, List.drop_eq_nil_of_le (by omega)]
        rfl
      go_wp2
      go_ret
      exact ⟨ret_bool (by rw [HN.out]; rfl), hb⟩
end Go.Proofs.YtjjjagepnnbebaaGreatDoor

namespace Go.Proofs.YtjjjagepnnbebaaGreatDoor
open Go.RowKit Go.Maps
attribute [local go_sem ↓] Go.wp_at_zero Go.wp_at_succ

theorem RuBox.belowB {w w' : World} {b B : Nat} {x : Ru} {a_pats : Option Addr} {c_pats : Nat} {a_exprs : Option Addr} {c_exprs : Nat} {a_acts : Option Addr} {c_acts : Nat} (h : RuBox w b x a_pats c_pats a_exprs c_exprs a_acts c_acts) (hb : Below B w w') (hB : b < B) : RuBox w' b x a_pats c_pats a_exprs c_exprs a_acts c_acts := by
  obtain ⟨h0, h1, h2, h3, h4⟩ := h
  exact ⟨(hb.cell (p := ⟨b, 0, none⟩) hB).trans h0, (hb.cell (p := ⟨b, 1, none⟩) hB).trans h1, (hb.cell (p := ⟨b, 2, none⟩) hB).trans h2, (hb.cell (p := ⟨b, 3, none⟩) hB).trans h3, (hb.cell (p := ⟨b, 4, none⟩) hB).trans h4⟩
theorem patsGo_cons (p : Pt) (r : List Pt) (known : List ByteArray) (k : Nat) : patsGo (p :: r) known k = match termsGo p.terms known with | none => .inl k | some here => patsGo r (if p.neg then known else here) (k + 1) := rfl
def actsV (x : Ru) (known : List ByteArray) : Option Nat := firstBad (actVar x.exprs known) x.acts (x.pats.length + 1)
theorem scope_eq (x : Ru) : scope x = match patsGo x.pats [] 1 with | .inl i => some i | .inr known => actsV x known := by
  unfold scope actsV
  cases patsGo x.pats [] 1 <;> rfl

set_option maxHeartbeats 800000 in
theorem unknownVar_any (x : Ru) (a_pats : Option Addr) (c_pats : Nat) (a_exprs : Option Addr) (c_exprs : Nat) (a_acts : Option Addr) (c_acts : Nat) {q : Option Nat} (w : World) (h_pats : PtsAt q w a_pats x.pats) (h_exprs : ExsAt q w a_exprs x.exprs) (h_acts : AcsAt q w a_acts x.acts) (hle : x.le 1048576) (hp6 : x.pats.length ≤ 6) (hpt : ∀ p ∈ x.pats, p.terms.length ≤ 6) (hargs : ∀ y ∈ x.acts, ∀ v ∈ y.args, 0 ≤ v ∧ v < (x.exprs.length : Int)) (hcap : x.exprs.length ≤ c_exprs) (he60 : x.exprs.length ≤ 60) :
    Calls Tryz.prog 53 #[.agg #[.string x.name, .int .i64 x.sal, .slice a_pats x.pats.length c_pats, .slice a_exprs x.exprs.length c_exprs, .slice a_acts x.acts.length c_acts]] w fun e w' => e = .returned (.int .i64 (item0 (scope x))) ∧ Below w.heap.size w w' := by
  obtain ⟨hsn0, hsp, hse, hsa⟩ := hle
  have hel := hse.1
  have hal := hsa.1
  obtain ⟨HH⟩ : Nonempty (Hid (scope x = match patsGo x.pats [] 1 with | .inl i => some i | .inr known => actsV x known)) := ⟨scope_eq x⟩
  have hmm := fun w => run_makeMap (P := Tryz.prog) 158 w
  go_enter Tryz.func53, Tryz.ntmps53
  go_wp2
  clear hmm
  go_loopw [13] (fun i wr => ∃ (k n : Nat) (known : List ByteArray) (D : DataW Unit), k ≤ x.pats.length ∧ i = .int .i64 k ∧ patsGo x.pats [] 1 = patsGo (x.pats.drop k) known (k + 1) ∧ n ≤ 6 * k ∧ NMap wr (w.heap.size + 1) n D ∧ NInv known D ∧ RuBox wr w.heap.size x a_pats c_pats a_exprs c_exprs a_acts c_acts ∧ Below w.heap.size w wr) (fun i _ => x.pats.length - (intOf i).toNat)
  case atStart =>
    refine ⟨0, 0, [], .map [], by omega, rfl, rfl, by omega, ?_, NInv.start, (RuBox.made w 39 x a_pats c_pats a_exprs c_exprs a_acts c_acts).below ((Below.refl _ _).alloc (Nat.le_refl _) _), ((Below.refl _ _).alloc (Nat.le_refl _) _).alloc (by simp) _⟩
    have := World.ownsMap_made (H := Unit) (w.alloc (.cells #[.string x.name, .int .i64 x.sal, .slice a_pats x.pats.length c_pats, .slice a_exprs x.exprs.length c_exprs, .slice a_acts x.acts.length c_acts] 39)) Tryz.prog 9 unitR
    simpa using this
  case round =>
    obtain ⟨k, n, known, D, hk, rfl, hG, hn, hown, hI, hbox, hb⟩ := hrel
    have HG := hideH hG
    have HBX := hideH hbox
    have HM := hideH hown
    have hml := hown.lt
    clear hG hown
    by_cases hkl : k < x.pats.length
    · obtain ⟨p, hpk⟩ : ∃ p, x.pats[k]? = some p := ⟨x.pats[k], by simp [hkl]⟩
      obtain ⟨b, o, a_terms, c_terms, rfl, hq, c0, c1, c2, h_terms⟩ := h_pats.get hpk
      have hpp := hsp.2 p (List.mem_of_getElem? hpk)
      have hp6' := hpt p (List.mem_of_getElem? hpk)
      have d0 := cell_below hb c0
      have d1 := cell_below hb c1
      have d2 := cell_below hb c2
      have HD : Hid (x.pats.drop k = p :: x.pats.drop (k + 1)) := drop_cons hpk
      have hBa : ∀ o, Below w.heap.size w (wr.alloc o) := fun o => hb.alloc hb.size _
      clear c0 c1 c2 hbox
      cases hn' : p.neg
      · have hKN := hideH (fun w' h1 h2 => knows_pos p a_terms c_terms (w.heap.size + 1) n D known (q := q) w w' h1 h_terms (hpp.2.mono mega_le (Tm.mono mega_le)) hpp.2.1 h2 hI (by omega) (by omega) hn')
        rw [hn'] at d0 hKN
        cases hT : termsGo p.terms known with
        | none =>
          rw [hT] at hKN
          have HN : Hid (scope x = some (k + 1)) := show scope x = _ from by rw [HH.out, HG.out, HD.out, patsGo_cons, hT]
          go_wp2_with (go_at_call 100; refine (hKN.out _ (hBa _) (HM.out.alloc _)).mono ?_; rintro e w1 ⟨rfl, hb1, _⟩)
          go_ret
          exact ⟨ret_int (by rw [HN.out]; simp [item0]), (hBa _).trans (hb1.mono (by omega))⟩
        | some here =>
          rw [hT] at hKN
          have HN : Hid (patsGo x.pats [] 1 = patsGo (x.pats.drop (k + 1)) here (k + 1 + 1)) := show patsGo x.pats [] 1 = _ from by rw [HG.out, HD.out, patsGo_cons, hT, hn']; rfl
          go_wp2_with (go_at_call 100; refine (hKN.out _ (hBa _) (HM.out.alloc _)).mono ?_; rintro e w1 ⟨rfl, hb1, hh⟩)
          obtain ⟨n2, D2, hn2, ho2, hI2⟩ := hh here rfl
          go_roundw
          case rel => exact ⟨k + 1, n2, here, D2, by omega, by go_num, HN.out, by omega, ho2, hI2, (HBX.out.below ((Below.refl _ _).alloc (Nat.le_refl _) _)).belowB hb1 (by omega), (hBa _).trans (hb1.mono (by omega))⟩
          case measure => simp [intOf]; omega
      · have hKN := hideH (fun w' h1 h2 => knows_neg p a_terms c_terms (w.heap.size + 1) n D known (q := q) w w' h1 h_terms (hpp.2.mono mega_le (Tm.mono mega_le)) hpp.2.1 h2 hI (by omega) hn')
        rw [hn'] at d0 hKN
        cases hT : termsGo p.terms known with
        | none =>
          rw [hT] at hKN
          have HN : Hid (scope x = some (k + 1)) := show scope x = _ from by rw [HH.out, HG.out, HD.out, patsGo_cons, hT]
          go_wp2_with (go_at_call 100; refine (hKN.out _ (hBa _) (HM.out.alloc _)).mono ?_; rintro e w1 ⟨rfl, hb1⟩)
          go_ret
          exact ⟨ret_int (by rw [HN.out]; simp [item0]), (hBa _).trans (hb1.mono (hBa _).size)⟩
        | some here =>
          rw [hT] at hKN
          have HN : Hid (patsGo x.pats [] 1 = patsGo (x.pats.drop (k + 1)) known (k + 1 + 1)) := show patsGo x.pats [] 1 = _ from by rw [HG.out, HD.out, patsGo_cons, hT, hn']; rfl
          go_wp2_with (go_at_call 100; refine (hKN.out _ (hBa _) (HM.out.alloc _)).mono ?_; rintro e w1 ⟨rfl, hb1⟩)
          have ho2 := ownsM (HM.out.alloc _) hb1
          go_roundw
          case rel => exact ⟨k + 1, n, known, D, by omega, by go_num, HN.out, by omega, ho2, hI, (HBX.out.below ((Below.refl _ _).alloc (Nat.le_refl _) _)).below hb1, (hBa _).trans (hb1.mono (hBa _).size)⟩
          case measure => simp [intOf]; omega
    · have HN : Hid (scope x = actsV x known) := show scope x = _ from by rw [HH.out, HG.out, List.drop_eq_nil_of_le (by omega)]; rfl
      obtain ⟨q0, q1, q2, q3, q4⟩ := hbox
      go_wp2
      clear q0 q1 q2 q3 q4
      go_loopw [28] (fun i wr' => ∃ (k : Nat), k ≤ x.acts.length ∧ i = .int .i64 k ∧ actsV x known = firstBad (actVar x.exprs known) (x.acts.drop k) (x.pats.length + 1 + k) ∧ NMap wr' (w.heap.size + 1) n D ∧ RuBox wr' w.heap.size x a_pats c_pats a_exprs c_exprs a_acts c_acts ∧ Below w.heap.size w wr') (fun i _ => x.acts.length - (intOf i).toNat)
      case atStart => exact ⟨0, by omega, rfl, rfl, HM.out, HBX.out, hb⟩
      case round =>
        clear HG HBX HM hb hk hn hml
        obtain ⟨k, hk, rfl, hG, hown, hbox, hb⟩ := hrel
        have HG := hideH hG
        have HBX := hideH hbox
        have HM := hideH hown
        have hml := hown.lt
        clear hG hown
        by_cases hkl2 : k < x.acts.length
        · obtain ⟨y, hyk⟩ : ∃ y, x.acts[k]? = some y := ⟨x.acts[k], by simp [hkl2]⟩
          obtain ⟨b, o, a_args, c_args, rfl, hq, c0, c1, c2, c3, h_args⟩ := (h_acts.below hb).get hyk
          have hyy := hargs y (List.mem_of_getElem? hyk)
          have hyl := (hsa.2 y (List.mem_of_getElem? hyk)).2
          have HD : Hid (x.acts.drop k = y :: x.acts.drop (k + 1)) := drop_cons hyk
          have hBa : ∀ o, Below w.heap.size w (wr.alloc o) := fun o => hb.alloc hb.size _
          have hBw : ∀ o, Below wr.heap.size wr (wr.alloc o) := fun o => (Below.refl _ _).alloc (Nat.le_refl _) _
          obtain ⟨q0, q1, q2, q3, q4⟩ := hbox
          by_cases hne : y.args.length = 0
          · have HK : Hid (actVar x.exprs known y = true) := show actVar x.exprs known y = true from by simp [actVar, List.eq_nil_of_length_eq_zero hne]
            have HX : Hid (actsV x known = firstBad (actVar x.exprs known) (x.acts.drop (k + 1)) (x.pats.length + 1 + (k + 1))) := show actsV x known = _ from by rw [HG.out, HD.out, firstBad_cons, HK.out]; rfl
            have hd0 : decide (0 < y.args.length) = false := decide_eq_false (by omega)
            have hd1 : decide ((0 : Int) < (y.args.length : Int)) = false := decide_eq_false (by omega)
            clear q0 q1 q2 q4
            go_wp2
            go_quiet (fail)
            go_wp2
            go_roundw
            case rel => exact ⟨k + 1, by omega, by go_num, HX.out, HM.out.alloc _, HBX.out.below (below_drewN2 (hBw _)), below_drewN2 (hBa _)⟩
            case measure => simp [intOf]; omega
          · obtain ⟨ln, hln⟩ : ∃ ln, y.args.length = ln + 1 := ⟨y.args.length - 1, by omega⟩
            obtain ⟨vl, hvl⟩ : ∃ v, y.args[ln]? = some v := ⟨y.args[ln]'(by omega), by simp⟩
            obtain ⟨hv0, hv1⟩ := hyy vl (List.mem_of_getElem? hvl)
            obtain ⟨vn, rfl⟩ := Int.eq_ofNat_of_zero_le hv0
            have hvn : vn < x.exprs.length := by omega
            obtain ⟨ba, oa, ea, hqa, ca⟩ := h_args.get hvl
            subst ea
            obtain ⟨be, oe, ee, _⟩ := h_exprs.get (List.getElem?_eq_getElem hvn)
            subst ee
            have HU : Hid (actVar x.exprs known y = (x.exprs.take (vn + 1)).all (knownE known)) := show actVar x.exprs known y = _ from by
              have h1 : y.args.isEmpty = false := by
                cases h : y.args with
                | nil => simp [h] at hln
                | cons v r => rfl
              have h2 : upTo y = vn + 1 := by
                unfold upTo
                rw [List.getLast?_eq_getElem?, hln, Nat.add_sub_cancel, hvl]
                rfl
              unfold actVar
              rw [h1, h2]
              rfl
            have hlen : (x.exprs.take (vn + 1)).length = vn + 1 := by simp; omega
            have hCV := hideH (fun w' (h1 : NMap w' (w.heap.size + 1) n D) (h2 : Below w.heap.size w w') => cover_any (w.heap.size + 1) n D known (some ⟨be, oe, none⟩) c_exprs (x.exprs.take (vn + 1)) w' (q := q) h1 hI (RowsAt.take (h_exprs.below h2) (vn + 1)) (by omega) (fun e he => Nat.le_trans (hse.2 e (List.mem_of_mem_take he)).1 mega_le))
            rw [hlen] at hCV
            have z0 : (0 : Int) ≤ (vn : Int) + 1 := by omega
            have z1 : (vn : Int) + 1 ≤ (c_exprs : Int) := by omega
            have z2 : (ln : Int) < (ln : Int) + 1 := by omega
            have hln60 : ln ≤ 1048576 := by omega
            have hw1 : IntKind.i64.wrap ((ln : Int) + 1 - 1) = (ln : Int) := by rw [show (ln : Int) + 1 - 1 = (ln : Int) by omega, IntKind.wrap_i64]; omega
            have hw2 : IntKind.i64.wrap (((ln + 1 : Nat) : Int) - 1) = (ln : Int) := by rw [show ((ln + 1 : Nat) : Int) - 1 = (ln : Int) by omega, IntKind.wrap_i64]; omega
            have hw3 : IntKind.i64.wrap (ln : Int) = (ln : Int) := by rw [IntKind.wrap_i64]; omega
            have hw4 : IntKind.i64.wrap ((vn : Int) + 1) = (vn : Int) + 1 := by rw [IntKind.wrap_i64]; omega
            have z3 : (0 : Int) ≤ (ln : Int) := by omega
            have z4 : (ln : Int) < ((ln + 1 : Nat) : Int) := by omega
            have z5 : (vn : Int) + 1 ≤ (x.exprs.length : Int) := by omega
            have hvn60 : vn < 60 := by omega
            rw [hln] at c3
            have hcv0 : (wr.alloc (.cells #[.int .i64 y.kind, .int .i64 y.k, .string y.cls, .slice (some ⟨ba, oa, none⟩) (ln + 1) c_args] 73)).cell? ⟨ba, oa + ln, none⟩ = some (.int .i64 (vn : Int)) := cell_below (hBw _) ca
            have hq3' : (wr.alloc (.cells #[.int .i64 y.kind, .int .i64 y.k, .string y.cls, .slice (some ⟨ba, oa, none⟩) (ln + 1) c_args] 73)).cell? ⟨w.heap.size, 3, none⟩ = some (.slice (some ⟨be, oe, none⟩) x.exprs.length c_exprs) := cell_below (hBw _) q3
            clear q0 q1 q4 ca hyy hne
            have hd0 : decide (0 < ln + 1) = true := decide_eq_true (by omega)
            cases hcov : (x.exprs.take (vn + 1)).all (knownE known)
            · rw [hcov] at hCV HU
              have HX : Hid (scope x = some (x.pats.length + 1 + k)) := show scope x = _ from by rw [HN.out, HG.out, HD.out, firstBad_cons, HU.out]; rfl
              go_wp2
              clear q3 c0 c1 c2 c3
              first
              | (go_region_held3 (fun w' => w'.cell? ⟨w.heap.size, 3, none⟩ = some (.slice (some ⟨be, oe, none⟩) x.exprs.length c_exprs) ∧ w'.cell? ⟨wr.heap.size, 3, none⟩ = some (.slice (some ⟨ba, oa, none⟩) (ln + 1) c_args) ∧ w'.cell? ⟨ba, oa + ln, none⟩ = some (.int .i64 (vn : Int))) ((go_split_ands; refine ⟨?_, ?_, ?_⟩ <;> first | (simp [go_sem, hcv0, hq3']; done) | exact cell_below hb' (by assumption))) (first | (go_at_call 101; refine (hCV.out _ (HM.out.alloc _).drew ((hBa _).drew)).mono ?_; rintro e w' ⟨rfl, hb'⟩; have r2 := cell_below hb' (cell_below ((hBw _).drew) q2)) | fail))
              | fail
              go_wp2
              go_ret
              exact ⟨ret_int (by rw [HX.out]; simp [item0]; omega), (hBa _).drew.trans (hb'.mono (by have := (hBa (.map #[] 0)).size; simp; omega))⟩
            · rw [hcov] at hCV HU
              have HX : Hid (actsV x known = firstBad (actVar x.exprs known) (x.acts.drop (k + 1)) (x.pats.length + 1 + (k + 1))) := show actsV x known = _ from by rw [HG.out, HD.out, firstBad_cons, HU.out]; rfl
              go_wp2
              clear q3 c0 c1 c2 c3
              first
              | (go_region_held3 (fun w' => w'.cell? ⟨w.heap.size, 3, none⟩ = some (.slice (some ⟨be, oe, none⟩) x.exprs.length c_exprs) ∧ w'.cell? ⟨wr.heap.size, 3, none⟩ = some (.slice (some ⟨ba, oa, none⟩) (ln + 1) c_args) ∧ w'.cell? ⟨ba, oa + ln, none⟩ = some (.int .i64 (vn : Int))) ((go_split_ands; refine ⟨?_, ?_, ?_⟩ <;> first | (simp [go_sem, hcv0, hq3']; done) | exact cell_below hb' (by assumption))) (first | (go_at_call 101; refine (hCV.out _ (HM.out.alloc _).drew ((hBa _).drew)).mono ?_; rintro e w' ⟨rfl, hb'⟩; have r2 := cell_below hb' (cell_below ((hBw _).drew) q2)) | fail))
              | fail
              go_wp2
              go_roundw
              case rel => exact ⟨k + 1, by omega, by go_num, HX.out, ownsM (HM.out.alloc _).drew hb', (HBX.out.below (hBw _).drew).below hb', (hBa _).drew.trans (hb'.mono (by have := (hBa (.map #[] 0)).size; simp; omega))⟩
              case measure => simp [intOf]; omega
        · go_wp2
          go_ret
          exact ⟨ret_int (by rw [HN.out, HG.out, List.drop_eq_nil_of_le (by omega)]; rfl), hb⟩
end Go.Proofs.YtjjjagepnnbebaaGreatDoor

namespace Go.Proofs.YtjjjagepnnbebaaGreatDoor
open Go.RowKit
attribute [local go_sem ↓] Go.wp_at_zero Go.wp_at_succ

theorem ret_pair {a b : Int} {p : Int × Int} (h : p = (a, b)) : Ending.returned (.tuple #[.int .i64 a, .int .i64 b]) = .returned (.tuple #[.int .i64 p.1, .int .i64 p.2]) := by rw [h]

theorem firstBad_none {α : Type} {f : α → Bool} : ∀ {l : List α} {k : Nat}, firstBad f l k = none → ∀ x ∈ l, f x = true
  | [], _, _, x, hx => by simp at hx
  | y :: r, k, h, x, hx => by
    rw [firstBad_cons] at h
    split at h
    · rename_i hy
      rcases List.mem_cons.1 hx with rfl | hm
      · exact hy
      · exact firstBad_none h x hm
    · cases h
theorem argsGo_mem {S : List Sp} : ∀ {l : List Int} {nx n : Nat}, argsGo S l nx = some n → ∀ v ∈ l, 0 ≤ v ∧ v < (S.length : Int)
  | [], _, _, _, v, hv => by simp at hv
  | x :: r, nx, n, h, v, hv => by
    rw [argsGo_cons] at h
    split at h
    · rename_i hc
      simp only [Bool.and_eq_true, decide_eq_true_eq] at hc
      rcases List.mem_cons.1 hv with rfl | hm
      · exact ⟨hc.1, hc.2.1⟩
      · exact argsGo_mem h v hm
    · cases h
theorem actsGo_none {S : List Sp} : ∀ {l : List Ac} {nx k : Nat}, actsGo S l nx k = none → ∀ y ∈ l, ∀ v ∈ y.args, 0 ≤ v ∧ v < (S.length : Int)
  | [], _, _, _, y, hy, _, _ => by simp at hy
  | a :: r, nx, k, h, y, hy, v, hv => by
    rw [actsGo_cons] at h
    cases hg : gAc S a nx with
    | none => rw [hg] at h; cases h
    | some n' =>
      rw [hg] at h
      rcases List.mem_cons.1 hy with rfl | hm
      · unfold gAc at hg
        split at hg
        · exact argsGo_mem hg v hv
        · cases hg
      · exact actsGo_none h y hm v hv
/-- What a rule of right shape has. -/
theorem shape_none {x : Ru} (h : shape x = none) : x.pats.length ≤ 6 ∧ x.acts.length ≤ 8 ∧ x.exprs.length ≤ 60 ∧ (∀ p ∈ x.pats, p.terms.length ≤ 6) ∧ (spansGo [] x.exprs).length = x.exprs.length ∧ ∀ y ∈ x.acts, ∀ v ∈ y.args, 0 ≤ v ∧ v < (x.exprs.length : Int) := by
  have hh : headOk x = true := by
    cases hc : headOk x
    · simp [shape, hc] at h
    · rfl
  rw [shape_go x hh] at h
  have hh' := hh
  simp only [headOk, Bool.and_eq_true, decide_eq_true_eq] at hh'
  cases hf : firstBad gPt x.pats 1 with
  | some i => rw [hf] at h; cases h
  | none =>
    rw [hf] at h
    have h' : rest x = none := h
    unfold rest at h'
    split at h'
    · cases h'
    · rename_i hlt
      have hsp := (spansGo_spans (es := x.exprs) (l := x.exprs) (Spans.nil x.exprs) rfl).1.1
      have hfull : (spansGo [] x.exprs).length = x.exprs.length := by omega
      refine ⟨hh'.2.1, hh'.2.2.1, hh'.2.2.2, fun p hp => ?_, hfull, fun y hy v hv => ?_⟩
      · have := firstBad_none hf p hp
        simp only [gPt, Bool.and_eq_true, decide_eq_true_eq] at this
        exact this.2.1
      · have := actsGo_none h' y hy v hv
        omega

theorem cell_lt {w : World} {b o : Nat} {x : Value} (h : w.cell? ⟨b, o, none⟩ = some x) : b < w.heap.size := by
  by_cases hp : b < w.heap.size
  · exact hp
  · have : w.heap[b]? = none := Array.getElem?_eq_none (by omega)
    simp [World.cell?, this] at h
theorem firstBad_ge {α : Type} {f : α → Bool} : ∀ {l : List α} {k i : Nat}, firstBad f l k = some i → k ≤ i
  | [], _, _, h => by cases h
  | x :: r, k, i, h => by
    rw [firstBad_cons] at h
    split at h
    · have := firstBad_ge h
      omega
    · injection h with h
      omega
theorem patsGo_ge : ∀ {l : List Pt} {known : List ByteArray} {k i : Nat}, patsGo l known k = .inl i → k ≤ i
  | [], _, _, _, h => by cases h
  | p :: r, known, k, i, h => by
    rw [patsGo_cons] at h
    split at h
    · injection h with h
      omega
    · have := patsGo_ge h
      omega
theorem scope_pos {x : Ru} {i : Nat} (h : scope x = some i) : 1 ≤ i := by
  rw [scope_eq] at h
  split at h
  · rename_i j hj
    injection h with h
    have := patsGo_ge hj
    omega
  · have := firstBad_ge h
    omega
theorem refs_pos {x : Ru} {i : Nat} (h : refs x = some i) : 1 ≤ i := by
  have := firstBad_ge h
  omega

set_option maxHeartbeats 3200000 in
theorem check_any (x : Ru) (a_pats : Option Addr) (c_pats : Nat) (a_exprs : Option Addr) (c_exprs : Nat) (a_acts : Option Addr) (c_acts : Nat) (a_e : Option Addr) (c_e : Nat) (pre : List Ru) {q : Option Nat} (w : World) (h_pre : RusAt q w a_e pre) (h_pats : PtsAt q w a_pats x.pats) (h_exprs : ExsAt q w a_exprs x.exprs) (h_acts : AcsAt q w a_acts x.acts) (hle : x.le 1048576) (ho : OpsOk x.exprs) (hcap : x.exprs.length ≤ c_exprs) (hpl : pre.length ≤ 16) :
    Calls Tryz.prog 19 #[.agg #[.string x.name, .int .i64 x.sal, .slice a_pats x.pats.length c_pats, .slice a_exprs x.exprs.length c_exprs, .slice a_acts x.acts.length c_acts], .slice a_e pre.length c_e] w fun e w' =>
      e = .returned (.tuple #[.int .i64 (chk1 pre x).1, .int .i64 (chk1 pre x).2]) ∧ Below w.heap.size w w' := by
  have hle0 := hle
  obtain ⟨hsn0, hsp, hse, hsa⟩ := hle
  have B0 : ∀ o, Below w.heap.size w (w.alloc o) := fun o => (Below.refl _ _).alloc (Nat.le_refl _) _
  have hSH := hideH (fun w h1 h2 h3 => shape_any x a_pats c_pats a_exprs c_exprs a_acts c_acts (q := q) w h1 h2 h3 hle0 ho)
  cases hshape : shape x with
  | some i =>
    rw [hshape] at hSH
    have HC : Hid (chk1 pre x = (1, (i : Int))) := show chk1 pre x = _ from by unfold chk1; rw [hshape]
    go_enter Tryz.func19, Tryz.ntmps19
    go_wp2_with (go_at_call 51; refine (hSH.out _ (h_pats.below (B0 _)) (h_exprs.below (B0 _)) (h_acts.below (B0 _))).mono ?_; rintro e w1 ⟨⟨v, rfl, hv⟩, hb1⟩; obtain rfl := hv i rfl)
    refine bodyPost_ret (v := .tuple #[.int .i64 (1), .int .i64 ((i : Int))]) (by simp [results, Tryz.results19, go_sem]) rfl ⟨ret_pair HC.out, (B0 _).trans (hb1.mono (by simp))⟩
  | none =>
    rw [hshape] at hSH
    obtain ⟨hp6, ha8, he60, hpt, hfull, hargs⟩ := shape_none hshape
    go_enter Tryz.func19, Tryz.ntmps19
    go_wp2_with (go_at_call 51; refine (hSH.out _ (h_pats.below (B0 _)) (h_exprs.below (B0 _)) (h_acts.below (B0 _))).mono ?_; rintro e w1 ⟨⟨v, rfl, _⟩, hb1⟩)
    have hB1 : Below w.heap.size w w1 := (B0 _).trans (hb1.mono (by simp))
    have hbx := (RuBox.made w 39 x a_pats c_pats a_exprs c_exprs a_acts c_acts).below hb1
    clear hb1
    go_loopw [23] (fun i wr => ∃ (k : Nat), k ≤ pre.length ∧ i = .int .i64 k ∧ pre.any (fun o => decide (o.name = x.name)) = (pre.drop k).any (fun o => decide (o.name = x.name)) ∧ RuBox wr w.heap.size x a_pats c_pats a_exprs c_exprs a_acts c_acts ∧ Below w.heap.size w wr) (fun i _ => pre.length - (intOf i).toNat)
    case atStart => exact ⟨0, by omega, rfl, rfl, hbx, hB1⟩
    case round =>
      clear hB1 hbx
      obtain ⟨k, hk, rfl, hG, hbox, hb⟩ := hrel
      have HG := hideH hG
      have HBX := hideH hbox
      clear hG
      by_cases hkl : k < pre.length
      · obtain ⟨y, hyk⟩ : ∃ y, pre[k]? = some y := ⟨pre[k], by simp [hkl]⟩
        obtain ⟨b, o, a1, k1, a2, k2, a3, k3, rfl, hq, c0, c1, c2, c3, c4, _, _, _⟩ := (h_pre.below hb).get hyk
        have HD : Hid (pre.drop k = y :: pre.drop (k + 1)) := drop_cons hyk
        have hBa : ∀ o, Below w.heap.size w (wr.alloc o) := fun o => hb.alloc hb.size _
        have hBw : ∀ o, Below wr.heap.size wr (wr.alloc o) := fun o => (Below.refl _ _).alloc (Nat.le_refl _) _
        obtain ⟨q0, q1, q2, q3, q4⟩ := hbox
        have hws : w.heap.size < wr.heap.size := cell_lt q0
        have q0' : ∀ o, (wr.alloc o).cell? ⟨w.heap.size, 0, none⟩ = some (.string x.name) := fun o => cell_below (hBw o) q0
        clear q1 q2 q3 q4 q0
        cases e1 : (y.name.toList == x.name.toList)
        · have HX : Hid (pre.any (fun o => decide (o.name = x.name)) = (pre.drop (k + 1)).any (fun o => decide (o.name = x.name))) := show _ = _ from by
            rw [bytes_beq] at e1
            rw [HG.out, HD.out, List.any_cons, e1]
            rfl
          go_wp2
          go_roundw
          case rel => exact ⟨k + 1, by omega, by go_num, HX.out, HBX.out.below (hBw _), hBa _⟩
          case measure => simp [intOf]; omega
        · have HX : Hid (chk1 pre x = (2, 0)) := show chk1 pre x = _ from by
            rw [bytes_beq] at e1
            unfold chk1
            rw [hshape]
            simp only
            rw [HG.out, HD.out, List.any_cons, e1]
            rfl
          go_wp2
          refine bodyPost_ret (v := .tuple #[.int .i64 (2), .int .i64 (0)]) (by simp [results, Tryz.results19, go_sem]) rfl ⟨ret_pair HX.out, hBa _⟩
      · have HA : Hid (pre.any (fun o => decide (o.name = x.name)) = false) := show _ = _ from by rw [HG.out, List.drop_eq_nil_of_le (by omega)]; rfl
        have hpos : positives x.pats ≤ x.pats.length := List.countP_le_length
        have hUN := hideH (fun w h1 h2 h3 => unknownVar_any x a_pats c_pats a_exprs c_exprs a_acts c_acts (q := q) w h1 h2 h3 hle0 hp6 hpt hargs hcap he60)
        have hWR := hideH (fun w h1 h2 => wrongRef_any x a_pats c_pats a_exprs c_exprs a_acts c_acts (q := q) w h1 h2 hsp.1 hsa.1)
        obtain ⟨q0, q1, q2, q3, q4⟩ := hbox
        by_cases hr : 1 ≤ positives x.pats ∧ positives x.pats ≤ 3
        · have HC : Hid (chk1 pre x = match scope x with | some i => (4, (i : Int)) | none => match refs x with | some i => (5, (i : Int)) | none => (0, 0)) := show chk1 pre x = _ from by
            unfold chk1
            rw [hshape]
            simp only
            rw [HA.out, if_neg (by decide), if_pos hr]
            cases scope x with
            | some i => rfl
            | none => cases refs x <;> rfl
          have r0 : ¬ (positives x.pats : Int) < 1 := by omega
          have r1 : ¬ (3 : Int) < (positives x.pats : Int) := by omega
          cases hsc : scope x with
          | some i =>
            rw [hsc] at hUN HC
            simp only [item0] at hUN
            have hi0 : ((i : Int) != 0) = true := by
              have := scope_pos hsc
              simp
              omega
            go_wp2_with (first | (go_at_call 52; refine (positives_any x a_pats c_pats a_exprs c_exprs a_acts c_acts _ (h_pats.below hb) (by omega)).mono ?_; rintro e w2 ⟨rfl, hb2⟩; obtain ⟨s0, s1, s2, s3, s4⟩ := HBX.out.below hb2) | (go_at_call 53; refine (hUN.out _ (h_pats.below (hb.trans (hb2.mono hb.size))) (h_exprs.below (hb.trans (hb2.mono hb.size))) (h_acts.below (hb.trans (hb2.mono hb.size)))).mono ?_; rintro e w3 ⟨rfl, hb3⟩; obtain ⟨t0, t1, t2, t3, t4⟩ := (HBX.out.below hb2).below hb3) | fail)
            refine bodyPost_ret (v := .tuple #[.int .i64 (4), .int .i64 ((i : Int))]) (by simp [results, Tryz.results19, go_sem]) rfl ⟨ret_pair HC.out, ((hb.trans (hb2.mono hb.size)).trans (hb3.mono (hb.trans (hb2.mono hb.size)).size))⟩
          | none =>
            rw [hsc] at hUN HC
            simp only [item0] at hUN
            cases hrf : refs x with
            | some i =>
              rw [hrf] at hWR HC
              simp only [item0] at hWR
              have hi0 : ((i : Int) != 0) = true := by
                have := refs_pos hrf
                simp
                omega
              go_wp2_with (first | (go_at_call 52; refine (positives_any x a_pats c_pats a_exprs c_exprs a_acts c_acts _ (h_pats.below hb) (by omega)).mono ?_; rintro e w2 ⟨rfl, hb2⟩; obtain ⟨s0, s1, s2, s3, s4⟩ := HBX.out.below hb2) | (go_at_call 53; refine (hUN.out _ (h_pats.below (hb.trans (hb2.mono hb.size))) (h_exprs.below (hb.trans (hb2.mono hb.size))) (h_acts.below (hb.trans (hb2.mono hb.size)))).mono ?_; rintro e w3 ⟨rfl, hb3⟩; obtain ⟨t0, t1, t2, t3, t4⟩ := (HBX.out.below hb2).below hb3) | (go_at_call 54; refine (hWR.out _ (h_pats.below ((hb.trans (hb2.mono hb.size)).trans (hb3.mono (hb.trans (hb2.mono hb.size)).size))) (h_acts.below ((hb.trans (hb2.mono hb.size)).trans (hb3.mono (hb.trans (hb2.mono hb.size)).size)))).mono ?_; rintro e w4 ⟨rfl, hb4⟩) | fail)
              refine bodyPost_ret (v := .tuple #[.int .i64 (5), .int .i64 ((i : Int))]) (by simp [results, Tryz.results19, go_sem]) rfl ⟨ret_pair HC.out, (((hb.trans (hb2.mono hb.size)).trans (hb3.mono (hb.trans (hb2.mono hb.size)).size)).trans (hb4.mono ((hb.trans (hb2.mono hb.size)).trans (hb3.mono (hb.trans (hb2.mono hb.size)).size)).size))⟩
            | none =>
              rw [hrf] at hWR HC
              simp only [item0] at hWR
              go_wp2_with (first | (go_at_call 52; refine (positives_any x a_pats c_pats a_exprs c_exprs a_acts c_acts _ (h_pats.below hb) (by omega)).mono ?_; rintro e w2 ⟨rfl, hb2⟩; obtain ⟨s0, s1, s2, s3, s4⟩ := HBX.out.below hb2) | (go_at_call 53; refine (hUN.out _ (h_pats.below (hb.trans (hb2.mono hb.size))) (h_exprs.below (hb.trans (hb2.mono hb.size))) (h_acts.below (hb.trans (hb2.mono hb.size)))).mono ?_; rintro e w3 ⟨rfl, hb3⟩; obtain ⟨t0, t1, t2, t3, t4⟩ := (HBX.out.below hb2).below hb3) | (go_at_call 54; refine (hWR.out _ (h_pats.below ((hb.trans (hb2.mono hb.size)).trans (hb3.mono (hb.trans (hb2.mono hb.size)).size))) (h_acts.below ((hb.trans (hb2.mono hb.size)).trans (hb3.mono (hb.trans (hb2.mono hb.size)).size)))).mono ?_; rintro e w4 ⟨rfl, hb4⟩) | fail)
              refine bodyPost_ret (v := .tuple #[.int .i64 (0), .int .i64 (0)]) (by simp [results, Tryz.results19, go_sem]) rfl ⟨ret_pair HC.out, (((hb.trans (hb2.mono hb.size)).trans (hb3.mono (hb.trans (hb2.mono hb.size)).size)).trans (hb4.mono ((hb.trans (hb2.mono hb.size)).trans (hb3.mono (hb.trans (hb2.mono hb.size)).size)).size))⟩
        · have HC : Hid (chk1 pre x = (3, 0)) := show chk1 pre x = _ from by
            unfold chk1
            rw [hshape]
            simp only
            rw [HA.out, if_neg (by decide), if_neg hr]
          by_cases r0 : (positives x.pats : Int) < 1
          · go_wp2_with (first | (go_at_call 52; refine (positives_any x a_pats c_pats a_exprs c_exprs a_acts c_acts _ (h_pats.below hb) (by omega)).mono ?_; rintro e w2 ⟨rfl, hb2⟩; obtain ⟨s0, s1, s2, s3, s4⟩ := HBX.out.below hb2) | fail)
            refine bodyPost_ret (v := .tuple #[.int .i64 (3), .int .i64 (0)]) (by simp [results, Tryz.results19, go_sem]) rfl ⟨ret_pair HC.out, (hb.trans (hb2.mono hb.size))⟩
          · have r1 : (3 : Int) < (positives x.pats : Int) := by omega
            go_wp2_with (first | (go_at_call 52; refine (positives_any x a_pats c_pats a_exprs c_exprs a_acts c_acts _ (h_pats.below hb) (by omega)).mono ?_; rintro e w2 ⟨rfl, hb2⟩; obtain ⟨s0, s1, s2, s3, s4⟩ := HBX.out.below hb2) | fail)
            refine bodyPost_ret (v := .tuple #[.int .i64 (3), .int .i64 (0)]) (by simp [results, Tryz.results19, go_sem]) rfl ⟨ret_pair HC.out, (hb.trans (hb2.mono hb.size))⟩
end Go.Proofs.YtjjjagepnnbebaaGreatDoor

namespace Go.Proofs.YtjjjagepnnbebaaGreatDoor
open Go.RowKit
attribute [local go_sem ↓] Go.wp_at_zero Go.wp_at_succ

theorem chkGo_cons (pre : List Ru) (r : Ru) (s : List Ru) (k : Nat) : chkGo pre (r :: s) k = if (chk1 pre r).1 = 0 then chkGo (pre ++ [r]) s (k + 1) else ((chk1 pre r).1, (k : Int), (chk1 pre r).2) := rfl
/-- Three numbers, as a Check. -/
def ckV (p : Int × Int × Int) : Value := .agg #[.int .i64 p.1, .int .i64 p.2.1, .int .i64 p.2.2]

set_option maxHeartbeats 1600000 in
theorem iCheckRules_any (a : Option Addr) (c : Nat) (rs : List Ru) {q : Option Nat} (w : World) (hv : RusAt q w a rs) (hc : rs.length ≤ c) (hle : ListLe Ru.le 1048576 rs) (ho : ∀ x ∈ rs, OpsOk x.exprs) :
    Calls Tryz.prog 9 #[.slice a rs.length c] w fun e w' => e = .returned (ckV (chk rs)) ∧ Below w.heap.size w w' := by
  obtain ⟨hl, hle⟩ := hle
  have B0 : ∀ o, Below w.heap.size w (w.alloc o) := fun o => (Below.refl _ _).alloc (Nat.le_refl _) _
  by_cases h16 : 16 < rs.length
  · have h16' : (16 : Int) < (rs.length : Int) := by omega
    have HC : Hid (chk rs = (1, 0, 0)) := show chk rs = _ from by unfold chk; rw [if_neg (by omega)]
    go_enter Tryz.func9, Tryz.ntmps9
    go_wp2
    refine bodyPost_ret (v := .agg #[.int .i64 1, .int .i64 0, .int .i64 0]) (by simp [results, Tryz.results9, go_sem]) rfl ⟨by rw [HC.out]; rfl, B0 _⟩
  · have h16' : ¬ (16 : Int) < (rs.length : Int) := by omega
    have HC : Hid (chk rs = chkGo [] rs 0) := show chk rs = _ from by unfold chk; rw [if_pos (by omega)]
    go_enter Tryz.func9, Tryz.ntmps9
    go_wp2
    go_loopw [13] (fun i wr => ∃ (k : Nat), k ≤ rs.length ∧ i = .int .i64 k ∧ chk rs = chkGo (rs.take k) (rs.drop k) k ∧ w.heap.size < wr.heap.size ∧ (∀ j, j < 3 → wr.cell? ⟨w.heap.size, j, none⟩ = some (.int .i64 0)) ∧ (∀ j, wr.frozen? ⟨w.heap.size, j, none⟩ = false) ∧ Below w.heap.size w wr) (fun i _ => rs.length - (intOf i).toNat)
    case atStart => exact ⟨0, by omega, rfl, by rw [HC.out]; rfl, by simp, fun j hj => by (match j, hj with | 0, _ => simp [go_sem] | 1, _ => simp [go_sem] | 2, _ => simp [go_sem]), fun j => by simp [go_sem], B0 _⟩
    case round =>
      obtain ⟨k, hk, rfl, hG, hws, hy, hyf, hb⟩ := hrel
      have HG := hideH hG
      clear hG
      have y0 := hy 0 (by omega)
      have y1 := hy 1 (by omega)
      have y2 := hy 2 (by omega)
      have f0 := hyf 0
      have f1 := hyf 1
      have f2 := hyf 2
      have HY := hideH (And.intro hy hyf)
      clear hy hyf
      by_cases hkl : k < rs.length
      · obtain ⟨x, hxk⟩ : ∃ x, rs[k]? = some x := ⟨rs[k], by simp [hkl]⟩
        have hv' := hv.below hb
        obtain ⟨b, o, a_pats, c_pats, a_exprs, c_exprs, a_acts, c_acts, rfl, hq, c0, c1, c2, c3, c4, h_pats, h_exprs, h_acts, hcap⟩ := hv'.get hxk
        have hxl := hle x (List.mem_of_getElem? hxk)
        have hxo := ho x (List.mem_of_getElem? hxk)
        have HD : Hid (rs.drop k = x :: rs.drop (k + 1)) := drop_cons hxk
        have HT : Hid (rs.take (k + 1) = rs.take k ++ [x]) := take_succ' rs k x hxk
        have hlen : (rs.take k).length = k := by simp; omega
        have hBw : ∀ o, Below wr.heap.size wr (wr.alloc o) := fun o => (Below.refl _ _).alloc (Nat.le_refl _) _
        have hBa : ∀ o, Below w.heap.size w (wr.alloc o) := fun o => hb.alloc hb.size _
        have hCK := hideH (fun w' (h0 : Below wr.heap.size wr w') => check_any x a_pats c_pats a_exprs c_exprs a_acts c_acts (some ⟨b, o, none⟩) c (rs.take k) (q := q) w' (RowsAt.take (hv'.below h0) k) (h_pats.below h0) (h_exprs.below h0) (h_acts.below h0) hxl hxo hcap (by omega))
        rw [hlen] at hCK
        have z0 : (0 : Int) ≤ (k : Int) := by omega
        have z1 : (k : Int) ≤ (c : Int) := by omega
        obtain ⟨⟨p1, p2⟩, hp⟩ : ∃ p, chk1 (rs.take k) x = p := ⟨_, rfl⟩
        rw [hp] at hCK
        by_cases hp0 : p1 = 0
        · have HX : Hid (chk rs = chkGo (rs.take (k + 1)) (rs.drop (k + 1)) (k + 1)) := show chk rs = _ from by rw [HG.out, HD.out, chkGo_cons, hp, if_pos hp0, HT.out]
          subst hp0
          go_wp2
          first
          | (go_region_held3 (fun w' => w'.cell? ⟨wr.heap.size, 0, none⟩ = some (.string x.name) ∧ w'.cell? ⟨wr.heap.size, 1, none⟩ = some (.int .i64 x.sal) ∧ w'.cell? ⟨wr.heap.size, 2, none⟩ = some (.slice a_pats x.pats.length c_pats) ∧ w'.cell? ⟨wr.heap.size, 3, none⟩ = some (.slice a_exprs x.exprs.length c_exprs) ∧ w'.cell? ⟨wr.heap.size, 4, none⟩ = some (.slice a_acts x.acts.length c_acts)) ((go_split_ands; refine ⟨?_, ?_, ?_, ?_, ?_⟩ <;> first | (simp [go_sem]; done) | exact cell_below hb' (by assumption))) (first | (go_at_call 19; refine (hCK.out _ ((hBw _).drew)).mono ?_; rintro e w' ⟨rfl, hb'⟩) | fail))
          | fail
          have hW : Below wr.heap.size wr w' := (hBw _).drew.trans (hb'.mono (by have := (hBw (.map #[] 0)).size; simp))
          go_wp2
          go_roundw
          case rel => exact ⟨k + 1, by omega, by go_num, HX.out, Nat.lt_of_lt_of_le hws hW.size, fun j hj => cell_below hW (HY.out.1 j hj), fun j => by rw [(bcell hW).2 _ _ hws]; exact HY.out.2 j, hb.trans (hW.mono hb.size)⟩
          case measure => simp [intOf]; omega
        · have HX : Hid (chk rs = (p1, (k : Int), p2)) := show chk rs = _ from by rw [HG.out, HD.out, chkGo_cons, hp, if_neg hp0]
          have hp1 : (p1 != 0) = true := by simpa using hp0
          go_wp2
          first
          | (go_region_held3 (fun w' => w'.cell? ⟨wr.heap.size, 0, none⟩ = some (.string x.name) ∧ w'.cell? ⟨wr.heap.size, 1, none⟩ = some (.int .i64 x.sal) ∧ w'.cell? ⟨wr.heap.size, 2, none⟩ = some (.slice a_pats x.pats.length c_pats) ∧ w'.cell? ⟨wr.heap.size, 3, none⟩ = some (.slice a_exprs x.exprs.length c_exprs) ∧ w'.cell? ⟨wr.heap.size, 4, none⟩ = some (.slice a_acts x.acts.length c_acts)) ((go_split_ands; refine ⟨?_, ?_, ?_, ?_, ?_⟩ <;> first | (simp [go_sem]; done) | exact cell_below hb' (by assumption))) (first | (go_at_call 19; refine (hCK.out _ ((hBw _).drew)).mono ?_; rintro e w' ⟨rfl, hb'⟩) | fail))
          | fail
          have hW : Below wr.heap.size wr w' := (hBw _).drew.trans (hb'.mono (by have := (hBw (.map #[] 0)).size; simp))
          have y0' := cell_below hW y0
          have y1' := cell_below hW y1
          have y2' := cell_below hW y2
          have f0' : w'.frozen? ⟨w.heap.size, 0, none⟩ = false := by rw [(bcell hW).2 _ _ hws]; exact f0
          have f1' : w'.frozen? ⟨w.heap.size, 1, none⟩ = false := by rw [(bcell hW).2 _ _ hws]; exact f1
          have f2' : w'.frozen? ⟨w.heap.size, 2, none⟩ = false := by rw [(bcell hW).2 _ _ hws]; exact f2
          go_wp2
          have hbW := hb.trans (hW.mono hb.size)
          refine bodyPost_ret (v := .agg #[.int .i64 p1, .int .i64 (k : Int), .int .i64 p2]) (by simp [results, Tryz.results9, go_sem, y0', y1', y2']) rfl ⟨by rw [HX.out]; rfl, ?_⟩
          exact ((hbW.setCell (Nat.le_refl _) _).setCell (Nat.le_refl _) _).setCell (Nat.le_refl _) _
      · have HX : Hid (chk rs = (0, 0, 0)) := show chk rs = _ from by rw [HG.out, List.drop_eq_nil_of_le (by omega)]; rfl
        go_wp2
        refine bodyPost_ret (v := .agg #[.int .i64 0, .int .i64 0, .int .i64 0]) (by simp [results, Tryz.results9, go_sem, y0, y1, y2]) rfl ⟨by rw [HX.out]; rfl, ?_⟩
        exact ((hb.setCell (Nat.le_refl _) _).setCell (Nat.le_refl _) _).setCell (Nat.le_refl _) _
end Go.Proofs.YtjjjagepnnbebaaGreatDoor
