/-
  OUR OWN TEXT. The model's draws: rules; a world without facts.
-/
import Derived.Test.YtgamdkokmkagaaaRn9m
import Derived.Test.YtgamdkokmkagaaaJg
namespace Go.Proofs.Ytgamdkokmkagaaa
open Go.RowKit
attribute [local go_sem ↓] Go.wp_at_zero Go.wp_at_succ

theorem infoRuF : (Try.prog.info? 140).map (fun i => (i.zero, i.size, i.bytes)) = some (some (.agg #[.string ⟨#[]⟩, .int .i64 0, .slice none 0 0, .slice none 0 0, .slice none 0 0]), 5, 96) := by kernel_rfl

set_option maxRecDepth 100000 in
set_option maxHeartbeats 3200000 in
theorem l2DrawRules_any (g most : Nat) (w : World) (h : Rdr w g) (hm : 1 ≤ most) (hm9 : most ≤ 8) :
    Calls Try.prog 161 #[.pointer (some ⟨g, 0, none⟩), .int .i64 (most : Int)] w fun e w' => ∃ a c M, e = .returned (.slice a (List.length M) c) ∧ 1 ≤ M.length ∧ M.length ≤ 8 ∧ RO w' w.heap.size a c M ∧ Rs g w w' := by
  have H := hidR h
  have hlt := h.lt
  clear h
  have hmI : ¬ (most : Int) = 0 := by omega
  go_enter Try.func161, Try.ntmps161
  go_wp2_with fail
  refine (next_any g w H.out).mono ?_
  rintro e w1 ⟨n1, hn1, rfl, hr1⟩
  have R1 := hidR hr1
  clear hr1 H
  obtain ⟨n0, hn0⟩ : ∃ n0, n0 = 1 + n1 % most := ⟨_, rfl⟩
  have hn0e : 1 + (n1 : Int) % (most : Int) = (n0 : Int) := by rw [hn0]; push_cast; rfl
  have hml := Nat.mod_lt n1 (show 0 < most by omega)
  have hn01 : 1 ≤ n0 ∧ n0 ≤ 8 := by omega
  clear hn0 hml
  go_wp2_with fail
  clear hn0e
  go_loopw [5, 6] (fun ov nv wr => ∃ (j : Nat) (a : Option Addr) (c : Nat) (M : List RuX), nv = .int .i64 (j : Int) ∧ ov = .slice a M.length c ∧ M.length + j = n0 ∧ RO wr w.heap.size a c M ∧ Rs g w wr) (fun _ nv _ => (intOf nv).toNat)
  case atStart => exact ⟨n0, none, 0, [], rfl, rfl, by simp, RO.nil _ _, R1.out⟩
  case round =>
    obtain ⟨j, a, c, M, rfl, rfl, hj, hRO, hR⟩ := hrel
    have HJ := hidR hj
    have hj8 : j ≤ 8 := by omega
    have hM8 : M.length ≤ 8 := by omega
    have MO := hidR hRO
    have R := hidR hR
    have hsr := hR.1.rest.size
    clear hj hRO hR R1
    by_cases hj0 : j = 0
    · have hM1 : 1 ≤ M.length := by have := HJ.out; omega
      clear HJ
      subst hj0
      go_wp2_with fail
      go_ret
      exact ⟨a, c, M, rfl, hM1, hM8, MO.out, R.out⟩
    · have hj1 : (0 : Int) < (j : Int) := by omega
      go_wp2_with fail
      refine (l2DrawRule_any g M.length wr R.out.2 (by omega)).mono ?_
      rintro e w2 ⟨nm, sal, pa, pc, L, ea, en, ec, aa, an, ac, rfl, hL1, hL6, hPO, hr2⟩
      have MO2 := hidR (MO.out.rs hr2 hlt)
      have R2 := hidR (R.out.trans hr2)
      have PO2 := hidR (hPO.lower hsr)
      have hs2 := hr2.1.rest.size
      have HW := hidR (fun o => (Below.refl _ _).alloc (Nat.le_refl _) o : ∀ o, Below w2.heap.size w2 (w2.alloc o))
      have TY := hidR (fun o k hk => own_type (own_bel MO2.out.1 (HW.out o)) (k := k) hk)
      clear hPO hr2 MO R
      unfold ruV
      go_wp2_with (first | (at_builtin; refine wpList_append_any (by rfl) (.tmp 16) (.tmp 21) 63 (by rfl) w.heap.size 140 _ 5 96 Try.underlying63 infoRuF (by rfl) (by omega) _ M.length _ (by rfl) (own_bel MO2.out.1 (HW.out _)) (some ⟨_, 0, none⟩) 1 1 (by rfl) (rcells ⟨nm, sal, .slice pa L.length pc, .slice ea en ec, .slice aa an ac, L⟩) (by rfl) (fun e => by cases e) (news_new _ _ _ _ (by simp)) (by intro u hu; simp [rcells] at hu; rcases hu with rfl | rfl | rfl | rfl | rfl <;> rfl) (by unfold maxLen; omega) (by omega) (by simp; omega) ?_; intro a9 c9 w9 ho9 hg9 hl9) | fail)
      go_roundw
      case rel =>
        refine ⟨j - 1, a9, c9, M ++ [⟨nm, sal, .slice pa L.length pc, .slice ea en ec, .slice aa an ac, L⟩], ?_, by simp, by simp; have := HJ.out; omega, ⟨by simpa using ho9.out, fun x hx => ?_⟩, (R2.out.bel (HW.out _)).grown hg9.out (fun k hk => (MO2.out.1.lt k hk).1) hlt⟩
        · rw [show ((j - 1 : Nat) : Int) = (j : Int) - 1 by omega]
        · have hx' : RuP w2 w.heap.size x := by
            rcases List.mem_append.1 hx with hx | hx
            · exact MO2.out.2 x hx
            · simp at hx
              subst hx
              exact ⟨⟨pa, pc, rfl, PO2.out⟩, hL1, hL6, ⟨_, _, _, rfl⟩, ⟨_, _, _, rfl⟩⟩
          exact (hx'.bel (HW.out _)).grown hg9.out (TY.out _) (by decide) (by decide)
      case measure => (simp [intOf]; omega)

set_option maxHeartbeats 800000 in
theorem l3Facts0_any (g : Nat) (v : Value) (w : World) (h : Rdr w g) : Calls Try.prog 162 #[.pointer (some ⟨g, 0, none⟩), v, .int .i64 0] w fun e w' => e = .returned (.slice none 0 0) ∧ Rs g w w' := by
  go_enter Try.func162, Try.ntmps162
  go_wp2_with fail
  refine (next_any g w h).mono ?_
  rintro e w1 ⟨n1, hn1, rfl, hr1⟩
  go_wp2_with fail
  go_loopw [7, 9] (fun ov nv wr => ov = .slice none 0 0 ∧ nv = .int .i64 0 ∧ wr = w1) (fun _ _ _ => 0)
  case atStart => exact ⟨rfl, by simp, rfl⟩
  case round =>
    obtain ⟨rfl, rfl, rfl⟩ := hrel
    go_wp2_with fail
    go_ret
    exact ⟨rfl, hr1⟩
/-- A store without facts, as it is handed over. -/
def stV (nx cp : Int) (sg : Bool) : Value := .agg #[.slice none 0 0, .int .i64 nx, .int .i64 cp, .bool sg]
def SB (w : World) (b : Nat) (nx cp : Int) (sg : Bool) : Prop := w.heap[b]? = some (.cells #[.slice none 0 0, .int .i64 nx, .int .i64 cp, .bool sg] 26 (0, 0))
theorem SB.facts {w : World} {b : Nat} {nx cp : Int} {sg : Bool} (h : SB w b nx cp sg) : (w.cell? ⟨b, 0, none⟩ = some (.slice none 0 0) ∧ w.cell? ⟨b, 1, none⟩ = some (.int .i64 nx) ∧ w.cell? ⟨b, 2, none⟩ = some (.int .i64 cp) ∧ w.cell? ⟨b, 3, none⟩ = some (.bool sg)) ∧ (∀ j, w.frozen? ⟨b, j, none⟩ = false) ∧ b < w.heap.size := by
  unfold SB at h
  refine ⟨⟨?_, ?_, ?_, ?_⟩, fun j => ?_, lt_of_block' h⟩ <;> simp [World.cell?, World.frozen?, h]
theorem lift_sbc {P : World → Prop} {w : World} {b : Nat} {nx cp v : Int} {sg : Bool} (h0 : SB w b nx cp sg) (h : ∀ wt, SB wt b nx v sg → Turned w wt b → P wt) : P (w.setCell ⟨b, 2, none⟩ (.int .i64 v)) :=
  h _ (by have := heap_setCell_same (i := 2) h0 (.int .i64 v); simpa [SB] using this) (Turned.setCells [.int .i64 v] 2 w b)
theorem lift_sbn {P : World → Prop} {w : World} {b : Nat} {nx cp v : Int} {sg : Bool} (h0 : SB w b nx cp sg) (h : ∀ wt, SB wt b v cp sg → Turned w wt b → P wt) : P (w.setCell ⟨b, 1, none⟩ (.int .i64 v)) :=
  h _ (by have := heap_setCell_same (i := 1) h0 (.int .i64 v); simpa [SB] using this) (Turned.setCells [.int .i64 v] 1 w b)
theorem RO.turned {w w' : World} {base d : Nat} {a : Option Addr} {c : Nat} {M : List RuX} {nx cp : Int} {sg : Bool} (h : RO w base a c M) (ht : Turned w w' d) (hd : SB w d nx cp sg) : RO w' base a c M := h.kept (fun k hk _ => ht.block k hk) hd (by decide) (by decide) (by decide)
theorem Rsfin {g : Nat} {w v : World} {x0 x1 x2 x3 : Value} (h : Rs g w v) (hg : g < w.heap.size) : Rs g w ((((v.drew.setCell ⟨w.heap.size, 0, none⟩ x0).setCell ⟨w.heap.size, 1, none⟩ x1).setCell ⟨w.heap.size, 2, none⟩ x2).setCell ⟨w.heap.size, 3, none⟩ x3) :=
  ((((h.bel (Below.refl _ _).drew).setOwn (Nat.le_refl _) hg).setOwn (Nat.le_refl _) hg).setOwn (Nat.le_refl _) hg).setOwn (Nat.le_refl _) hg
theorem MOfin {v : World} {base d : Nat} {a : Option Addr} {c : Nat} {M : List RuX} {nx cp : Int} {sg : Bool} {x0 x1 x2 x3 : Value} (h : RO v base a c M) (hd : SB v d nx cp sg) : RO ((((v.drew.setCell ⟨d, 0, none⟩ x0).setCell ⟨d, 1, none⟩ x1).setCell ⟨d, 2, none⟩ x2).setCell ⟨d, 3, none⟩ x3) base a c M := by
  have e1 : ∀ (u : World) (j k : Nat) (x : Value), k ≠ d → (u.setCell ⟨d, j, none⟩ x).heap[k]? = u.heap[k]? := fun u j k x h => Below.heap_setCell u ⟨d, j, none⟩ x k h
  refine RO.kept (t := 26) h (fun k hk _ => ?_) hd (by decide) (by decide) (by decide)
  rw [e1 _ _ _ _ hk, e1 _ _ _ _ hk, e1 _ _ _ _ hk, e1 _ _ _ _ hk]
  rfl
set_option maxRecDepth 100000 in
set_option maxHeartbeats 3200000 in
theorem l6World0_any (g : Nat) (w : World) (h : Rdr w g) : Calls Try.prog 115 #[.pointer (some ⟨g, 0, none⟩), .int .i64 0] w fun e w' => ∃ a c M nx cp sg, e = .returned (.tuple #[.slice a (List.length M) c, stV nx cp sg]) ∧ 1 ≤ M.length ∧ M.length ≤ 8 ∧ RO w' w.heap.size a c M ∧ Rs g w w' := by
  have H := hidR h
  have hlt := h.lt
  clear h
  have HA := hidR (fun o => (Below.refl _ _).alloc (Nat.le_refl _) o : ∀ o, Below w.heap.size w (w.alloc o))
  have HRa := hidR (fun o => H.out.bel (HA.out o))
  go_enter Try.func115, Try.ntmps115
  go_wp2_with fail
  refine (l2DrawRules_any g 3 _ (HRa.out _) (by omega) (by omega)).mono ?_
  rintro e w1 ⟨a, c, M, rfl, hM1, hM8, hRO, hr1⟩
  have SB1 := hidR (show SB w1 w.heap.size 0 0 false from block_rs hr1 (heap_alloc_new _ _) (by omega))
  have MO1 := hidR (show RO w1 w.heap.size a c M from ⟨owns_base hRO.1 (by simp), fun x hx => by obtain ⟨⟨pa, pc, e1, e2⟩, e3⟩ := hRO.2 x hx; exact ⟨⟨pa, pc, e1, e2.lower (by simp)⟩, e3⟩⟩)
  have R1 := hidR ((Rs.of H.out (HA.out _)).trans hr1)
  have hs1 : w.heap.size < w1.heap.size := lt_of_block' SB1.out
  clear hRO hr1 HA HRa H
  go_wp2_with fail
  refine (next_any g w1 R1.out.2).mono ?_
  rintro e w2 ⟨n2, hn2, rfl, hr2⟩
  have SB2 := hidR (show SB w2 w.heap.size 0 0 false from block_rs hr2 SB1.out (by omega))
  have MO2 := hidR (MO1.out.rs hr2 hlt)
  have R2 := hidR (R1.out.trans hr2)
  have hs2 := hr2.1.rest.size
  clear hr2 SB1 MO1 R1
  go_upto_region 3 with fail
  refine lift_alloc ?_
  intro w3 hW3 hsb3
  have S3 := hidR (show SB w3 w2.heap.size _ _ _ from hsb3)
  have SB3 := hidR (show SB w3 w.heap.size 0 0 false from (hW3.block _ (by omega)).trans SB2.out)
  have MO3 := hidR (MO2.out.bel hW3)
  have R3 := hidR (R2.out.bel hW3)
  have hs3 := hW3.size
  clear hW3 hsb3 SB2 MO2 R2
  go_wp2_with fail
  refine (l3Facts0_any g _ w3 R3.out.2).mono ?_
  rintro e w4 ⟨rfl, hr4⟩
  have S4 := hidR (show SB w4 w2.heap.size _ _ _ from block_rs hr4 S3.out (by omega))
  have SB4 := hidR (show SB w4 w.heap.size 0 0 false from block_rs hr4 SB3.out (by omega))
  have MO4 := hidR (MO3.out.rs hr4 hlt)
  have R4 := hidR (R3.out.trans hr4)
  have hs4 := hr4.1.rest.size
  clear hr4 S3 SB3 MO3 R3
  go_wp2_with fail
  go_loopw [23] (fun iv wr => iv = .int .i64 0 ∧ wr = w4) (fun _ _ => 0)
  case atStart => exact ⟨rfl, rfl⟩
  case round =>
    obtain ⟨rfl, rfl⟩ := hrel
    go_wp2_with fail
    refine (next_any g wr R4.out.2).mono ?_
    rintro e w5 ⟨n5, hn5, rfl, hr5⟩
    have S5 := hidR (show SB w5 w2.heap.size _ _ _ from block_rs hr5 S4.out (by omega))
    have SB5 := hidR (show SB w5 w.heap.size 0 0 false from block_rs hr5 SB4.out (by omega))
    have MO5 := hidR (MO4.out.rs hr5 hlt)
    have R5 := hidR (R4.out.trans hr5)
    have hs5 := hr5.1.rest.size
    obtain ⟨⟨f0, f1, f2, f3⟩, z, hb5⟩ := S5.out.facts
    have z1 := z 1
    have z2 := z 2
    obtain ⟨⟨e0, e1, e2, e3⟩, z', hb6⟩ := SB5.out.facts
    have y0 := z' 0
    have y1 := z' 1
    have y2 := z' 2
    have y3 := z' 3
    clear z z' hr5 S4 SB4 MO4 R4
    by_cases h16 : n5 % 16 = 0
    · have h16b : ((n5 : Int) % 16 == 0) = true := by simp; omega
      have h32b : ((n5 : Int) % 32 == 1) = false := by simp; omega
      clear h16
      go_upto_region 13 with fail
      refine lift_sbc S5.out ?_
      intro wt hSt hTt
      have St := hidR hSt
      have SBt := hidR (show SB wt w.heap.size 0 0 false from (hTt.block _ (by omega)).trans SB5.out)
      have MOt := hidR (MO5.out.turned hTt S5.out)
      have Rt := hidR (R5.out.turned hTt (by omega) hlt)
      clear hSt hTt f0 f1 f2 f3 z1 z2 e0 e1 e2 e3 y0 y1 y2 y3 hb5 hb6 SB5 MO5 R5 S5
      obtain ⟨⟨f0, f1, f2, f3⟩, _, hbt⟩ := St.out.facts
      obtain ⟨⟨e0, e1, e2, e3⟩, z', hbr⟩ := SBt.out.facts
      have y0 := z' 0
      have y1 := z' 1
      have y2 := z' 2
      have y3 := z' 3
      clear z'
      go_region
      go_wp2_with fail
      refine bodyPost_ret (v := .tuple #[.slice a M.length c, stV 1 0 (((n2 : Int) % 2 == 1))]) (by simp [results, Try.results115, go_sem, e0, e1, e2, e3, stV]) rfl ⟨a, c, M, 1, 0, _, rfl, hM1, hM8, ?_, ?_⟩
      · exact MOfin MOt.out SBt.out
      · exact Rsfin Rt.out hlt
    have h16b : ((n5 : Int) % 16 == 0) = false := by simp; omega
    by_cases h32 : n5 % 32 = 1
    · have h32b : ((n5 : Int) % 32 == 1) = true := by simp; omega
      clear h32
      go_upto_region 13 with fail
      refine lift_sbn S5.out ?_
      intro wt hSt hTt
      have St := hidR hSt
      have SBt := hidR (show SB wt w.heap.size 0 0 false from (hTt.block _ (by omega)).trans SB5.out)
      have MOt := hidR (MO5.out.turned hTt S5.out)
      have Rt := hidR (R5.out.turned hTt (by omega) hlt)
      clear hSt hTt f0 f1 f2 f3 z1 z2 e0 e1 e2 e3 y0 y1 y2 y3 hb5 hb6 SB5 MO5 R5 S5
      obtain ⟨⟨f0, f1, f2, f3⟩, _, hbt⟩ := St.out.facts
      obtain ⟨⟨e0, e1, e2, e3⟩, z', hbr⟩ := SBt.out.facts
      have y0 := z' 0
      have y1 := z' 1
      have y2 := z' 2
      have y3 := z' 3
      clear z'
      go_region
      go_wp2_with fail
      refine bodyPost_ret (v := .tuple #[.slice a M.length c, stV 1000000 12 (((n2 : Int) % 2 == 1))]) (by simp [results, Try.results115, go_sem, e0, e1, e2, e3, stV]) rfl ⟨a, c, M, 1000000, 12, _, rfl, hM1, hM8, ?_, ?_⟩
      · exact MOfin MOt.out SBt.out
      · exact Rsfin Rt.out hlt
    · have h32b : ((n5 : Int) % 32 == 1) = false := by simp; omega
      clear h32
      go_upto_region 13 with fail
      have St := hidR S5.out
      have SBt := hidR SB5.out
      have MOt := hidR MO5.out
      have Rt := hidR R5.out
      clear f0 f1 f2 f3 z1 z2 e0 e1 e2 e3 y0 y1 y2 y3 hb5 hb6 SB5 MO5 R5 S5
      obtain ⟨⟨f0, f1, f2, f3⟩, _, hbt⟩ := St.out.facts
      obtain ⟨⟨e0, e1, e2, e3⟩, z', hbr⟩ := SBt.out.facts
      have y0 := z' 0
      have y1 := z' 1
      have y2 := z' 2
      have y3 := z' 3
      clear z'
      go_region
      go_wp2_with fail
      refine bodyPost_ret (v := .tuple #[.slice a M.length c, stV 1 12 (((n2 : Int) % 2 == 1))]) (by simp [results, Try.results115, go_sem, e0, e1, e2, e3, stV]) rfl ⟨a, c, M, 1, 12, _, rfl, hM1, hM8, ?_, ?_⟩
      · exact MOfin MOt.out SBt.out
      · exact Rsfin Rt.out hlt
end Go.Proofs.Ytgamdkokmkagaaa
