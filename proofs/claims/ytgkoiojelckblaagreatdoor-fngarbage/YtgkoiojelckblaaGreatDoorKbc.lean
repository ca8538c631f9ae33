/-
  OUR OWN TEXT. Dw10, Dwa, one behind the other.
-/
import Derived.Test.YtgkoiojelckblaaGreatDoorKaw
import Derived.Test.YtgkoiojelckblaaGreatDoorKag
import Derived.Test.YtgkoiojelckblaaGreatDoorKay
import Derived.Test.YtgkoiojelckblaaGreatDoorKau
import Derived.Test.YtgkoiojelckblaaGreatDoorDwzm
namespace Go.Proofs.YtgkoiojelckblaaGreatDoor
open Go.RowKit
attribute [local go_sem ↓] Go.wp_at_zero Go.wp_at_succ

theorem infoRuF : (Tryz.prog.info? 41).map (fun i => (i.zero, i.size, i.bytes)) = some (some (.agg #[.string ⟨#[]⟩, .int .i64 0, .slice none 0 0, .slice none 0 0, .slice none 0 0]), 5, 96) := by kernel_rfl

set_option maxRecDepth 100000 in
set_option maxHeartbeats 3200000 in
theorem l2DrawRules_any (g most : Nat) (w : World) (h : Rdr w g) (hm : 1 ≤ most) (hm9 : most ≤ 8) :
    Calls Tryz.prog 13 #[.pointer (some ⟨g, 0, none⟩), .int .i64 (most : Int)] w fun e w' => ∃ a c M, e = .returned (.slice a (List.length M) c) ∧ 1 ≤ M.length ∧ M.length ≤ most ∧ MOk M ∧ RO w' w.heap.size a c M ∧ Rs g w w' := by
  have H := hidR h
  have hlt := h.lt
  clear h
  have hmI : ¬ (most : Int) = 0 := by omega
  go_enter Tryz.func13, Tryz.ntmps13
  go_wp2_with fail
  refine (next_any g w H.out).mono ?_
  rintro e w1 ⟨n1, hn1, rfl, hr1⟩
  have R1 := hidR hr1
  clear hr1 H
  obtain ⟨n0, hn0⟩ : ∃ n0, n0 = 1 + n1 % most := ⟨_, rfl⟩
  have hn0e : 1 + (n1 : Int) % (most : Int) = (n0 : Int) := by rw [hn0]; push_cast; rfl
  have hml := Nat.mod_lt n1 (show 0 < most by omega)
  have hn01 : 1 ≤ n0 ∧ n0 ≤ most := by omega
  clear hn0 hml
  go_wp2_with fail
  clear hn0e
  go_loopw [5, 6] (fun ov nv wr => ∃ (j : Nat) (a : Option Addr) (c : Nat) (M : List RuX), nv = .int .i64 (j : Int) ∧ ov = .slice a M.length c ∧ M.length + j = n0 ∧ MOk M ∧ RO wr w.heap.size a c M ∧ Rs g w wr) (fun _ nv _ => (intOf nv).toNat)
  case atStart => exact ⟨n0, none, 0, [], rfl, rfl, by simp, fun i x h => by simp at h, RO.nil _ _, R1.out⟩
  case round =>
    obtain ⟨j, a, c, M, rfl, rfl, hj, hMK, hRO, hR⟩ := hrel
    have HMK := hidR hMK
    clear hMK
    have HJ := hidR hj
    have hj8 : j ≤ 8 := by omega
    have hM8 : M.length ≤ 8 := by omega
    have HMm := hidR (show M.length ≤ most by omega)
    have MO := hidR hRO
    have R := hidR hR
    have hsr := hR.1.rest.size
    clear hj hRO hR R1
    by_cases hj0 : j = 0
    · have hM1 : 1 ≤ M.length := by have := HJ.out; omega
      clear HJ
      subst hj0
      go_wp2_with fail
      go_ret
      exact ⟨a, c, M, rfl, hM1, HMm.out, HMK.out, MO.out, R.out⟩
    · have hj1 : (0 : Int) < (j : Int) := by omega
      go_wp2_with fail
      refine (l2DrawRule_any g M.length wr R.out.2 (by omega)).mono ?_
      rintro e w2 ⟨x, rfl, hDR, hsal, hRP, hr2⟩
      have HDR := hidR hDR
      have HSL := hidR hsal
      obtain ⟨⟨pa, pn, pc, hpv⟩, ⟨ea, en, ec, hev⟩, aa, an, ac, hav⟩ := hRP.slices
      obtain ⟨nm, sal, pv, ev, av, pats, es, acts⟩ := x
      dsimp only at hpv hev hav
      subst hpv hev hav
      have MO2 := hidR (MO.out.rs hr2 hlt)
      have R2 := hidR (R.out.trans hr2)
      have PO2 := hidR (hRP.lower hsr)
      have hs2 := hr2.1.rest.size
      have HW := hidR (fun o => (Below.refl _ _).alloc (Nat.le_refl _) o : ∀ o, Below w2.heap.size w2 (w2.alloc o))
      have TY := hidR (fun o k hk => own_type (own_bel MO2.out.1 (HW.out o)) (k := k) hk)
      clear hRP hr2 MO R hDR hsal
      unfold ruV
      go_wp2_with (first | (at_builtin; refine wpList_append_any (by rfl) (.tmp 16) (.tmp 21) 24 (by rfl) w.heap.size 41 _ 5 96 Tryz.underlying24 infoRuF (by rfl) (by omega) _ M.length _ (by rfl) (own_bel MO2.out.1 (HW.out _)) (some ⟨_, 0, none⟩) 1 1 (by rfl) (rcells ⟨nm, sal, .slice pa pn pc, .slice ea en ec, .slice aa an ac, pats, es, acts⟩) (by rfl) (fun e => by cases e) (news_new _ _ _ _ (by simp)) (by intro u hu; simp [rcells] at hu; rcases hu with rfl | rfl | rfl | rfl | rfl <;> rfl) (by unfold maxLen; omega) (by omega) (by simp; omega) ?_; intro a9 c9 w9 ho9 hg9 hl9) | fail)
      go_roundw
      case rel =>
        refine ⟨j - 1, a9, c9, M ++ [⟨nm, sal, .slice pa pn pc, .slice ea en ec, .slice aa an ac, pats, es, acts⟩], ?_, by simp, by simp; have := HJ.out; omega, HMK.out.snoc HDR.out HSL.out, ⟨by simpa using ho9.out, fun x hx => ?_⟩, (R2.out.bel (HW.out _)).grown hg9.out (fun k hk => (MO2.out.1.lt k hk).1) hlt⟩
        · rw [show ((j - 1 : Nat) : Int) = (j : Int) - 1 by omega]
        · have hx' : RuP w2 w.heap.size x := by
            rcases List.mem_append.1 hx with hx | hx
            · exact MO2.out.2 x hx
            · simp at hx
              subst hx
              exact PO2.out
          exact (hx'.same (Same.bel (HW.out _))).same (Same.grown hg9.out (TY.out _) (by decide))
      case measure => (simp [intOf]; omega)
end Go.Proofs.YtgkoiojelckblaaGreatDoor

namespace Go.Proofs.YtgkoiojelckblaaGreatDoor
open Go.RowKit
attribute [local go_sem ↓] Go.wp_at_zero Go.wp_at_succ

theorem rows_own {α β : Type} {R : World → List Value → β → Prop} {cells : α → List Value} {f : α → β} {m : Nat} (hm : ∀ x, (cells x).length = m) (h0 : 0 < m) {w : World} {base : Nat} {t : TypeId} {a : Option Addr} {n c : Nat} {L : List α} (h : w.ownsRow base t m (.slice a n c) n (L.flatMap cells)) (hR : ∀ x ∈ L, R w (cells x) (f x)) : RowsAt R none t m w a (L.map f) := by
  intro i y hy
  rw [List.getElem?_map] at hy
  obtain ⟨x, hx, rfl⟩ := Option.map_eq_some_iff.1 hy
  have key := fun j u (hj : (cells x)[j]? = some u) => owns_cell h (flat_gen (cells := cells) (m := m) hm L i x j u hx hj)
  obtain ⟨k, rfl, _⟩ := key 0 ((cells x)[0]'(by rw [hm]; exact h0)) (by simp)
  refine ⟨k, 0, cells x, rfl, Qb.bare _ _ _, hm x, fun j v hj => ?_, hR x (List.mem_of_getElem? hx)⟩
  obtain ⟨k', e, _, hc, _⟩ := key j v hj
  cases e
  rw [Nat.zero_add]
  exact hc
theorem PO.pts {w : World} {base : Nat} {a : Option Addr} {c : Nat} {L : List PtV} (h : PO w base a c L) : PtsAt none w a (L.map Prod.fst) := by
  refine rows_own (cells := pcells) (fun _ => rfl) (by decide) h.1 (fun x hx => ?_)
  obtain ⟨⟨ta, tc, e⟩, ho, _⟩ := h.2 x hx
  rw [e] at ho
  have ht : TmsAt none w ta x.1.terms := by
    have := rows_own (R := Tm.R) (cells := tmCells) (f := id) (fun _ => rfl) (by decide) ho (fun _ _ => rfl)
    simpa using this
  exact ⟨ta, tc, by rw [pcells, e], ht, own_capA ho⟩
theorem AcO.acs {w : World} {base : Nat} {a : Option Addr} {c : Nat} {Y : List AcV} (h : AcO w base a c Y) : AcsAt none w a (Y.map Prod.fst) := by
  refine rows_own (cells := acells) (fun _ => rfl) (by decide) h.1 (fun x hx => ?_)
  obtain ⟨⟨ta, tc, e⟩, ho⟩ := h.2 x hx
  rw [e] at ho
  exact ⟨ta, tc, by rw [acells, e], IntsAt.owns ho⟩
theorem RO.rus {w : World} {base : Nat} {a : Option Addr} {c : Nat} {M : List RuX} (h : RO w base a c M) : RusAt none w a (M.map RuX.ru) := by
  refine rows_own (cells := rcells) (fun _ => rfl) (by decide) h.1 (fun x hx => ?_)
  obtain ⟨⟨pa, pc, e1, h1⟩, ⟨ea, ec, e2, h2, _⟩, aa, ac, e3, h3⟩ := h.2 x hx
  have he : ExsAt none w ea x.es := by
    have := rows_own (R := Ex.R) (cells := exCells) (f := id) (fun _ => rfl) (by decide) h2 (fun _ _ => rfl)
    simpa using this
  exact ⟨pa, pc, ea, ec, aa, ac, by unfold rcells; rw [e1, e2, e3]; simp [RuX.ru], h1.pts, he, h3.acs, own_capA h2⟩
theorem RO.cap {w : World} {base : Nat} {a : Option Addr} {c : Nat} {M : List RuX} (h : RO w base a c M) : M.length ≤ c := own_capA h.1
theorem gSym_small {s : ByteArray} (h : gSym s.data.toList = true) : s.size ≤ 1048576 := by
  simp only [gSym, Bool.and_eq_true, decide_eq_true_eq] at h
  have : s.data.toList.length = s.size := Array.length_toList
  omega
theorem isE_small {s : ByteArray} (h : isE s = true) : s.size ≤ 1048576 := by
  rw [bytes_emptyA h]
  exact Nat.zero_le _
theorem cls_small {a : Ac} (h : fieldsOk a = true) : a.cls.size ≤ 1048576 := by
  unfold fieldsOk at h
  split at h
  · simp only [gCls, Bool.and_eq_true] at h
    exact gSym_small h.1.1
  · split at h
    · simp only [Bool.and_eq_true] at h
      exact isE_small h.1.1
    · split at h
      · simp only [Bool.and_eq_true] at h
        exact isE_small h.1
      · split at h
        · simp only [Bool.and_eq_true] at h
          exact isE_small h.1
        · cases h
theorem ActsT.le {K : List ByteArray} {pos : Nat} : ∀ {us : List Ac} {n : Nat} {ys : List Ex}, ActsT K pos n ys us → ∀ a ∈ us, Ac.le 1048576 a
  | [], n, ys, h => by simp
  | x :: r, n, ys, h => by
    obtain ⟨A, C, rfl, hA, hx, hC⟩ := h
    intro a ha
    rcases List.mem_cons.1 ha with rfl | ha
    · exact ⟨cls_small hx.1, by omega⟩
    · exact ActsT.le hC a ha
/-- What is known of rules that were drawn. -/
structure RsOk (rs : List Ru) : Prop where
  len : 1 ≤ rs.length ∧ rs.length ≤ 8
  chk : chk rs = (0, 0, 0)
  le : ListLe Ru.le 1048576 rs
  ops : ∀ x ∈ rs, OpsOk x.exprs
  vok : ∀ r ∈ rs, ∀ p ∈ r.pats, ∀ t ∈ p.terms, VOk t.val
  sal : ∀ r ∈ rs, -9223372036854775808 ≤ r.sal ∧ r.sal ≤ 9223372036854775807
theorem vok_sm {v : V} (h : VSm v) : VOk v := by
  obtain ⟨h1, ⟨h2, h3⟩, h4, h5, _⟩ := h
  exact ⟨wf_rangeA h2 h3, wf_rangeA h4 h5, by unfold maxLen; omega⟩
theorem rs_ok {w : World} {base : Nat} {a : Option Addr} {c : Nat} {M : List RuX} (h : RO w base a c M) (hM : MOk M) (h1 : 1 ≤ M.length) (h8 : M.length ≤ 8) : RsOk (M.map RuX.ru) := by
  have hpt : ∀ x ∈ M, ∀ y ∈ x.pats, PtX w base y := fun x hx y hy => by
    obtain ⟨⟨pa, pc, e1, h1⟩, _⟩ := h.2 x hx
    exact h1.2 y hy
  have hex : ∀ x ∈ M, ∀ e ∈ x.es, ExSm e := fun x hx => by
    obtain ⟨_, ⟨_, _, _, _, h3⟩, _⟩ := h.2 x hx
    exact h3
  have hd : ∀ x ∈ M, ∃ k, DRu k x.ru := fun x hx => by
    obtain ⟨i, hi⟩ := List.mem_iff_getElem?.1 hx
    exact ⟨i, (hM i x hi).1⟩
  refine ⟨by simpa using And.intro h1 h8, chk_drawn (fun i r hr => ?_) (by simp; omega), ⟨by simp; omega, fun r hr => ?_⟩, fun r hr e he => ?_, fun r hr p hp t ht => ?_, fun r hr => ?_⟩
  · rw [List.getElem?_map] at hr
    obtain ⟨x, hx, rfl⟩ := Option.map_eq_some_iff.1 hr
    exact (hM i x hx).1
  · obtain ⟨x, hx, rfl⟩ := List.mem_map.1 hr
    obtain ⟨k, hn, K, pos, hdr⟩ := hd x hx
    refine ⟨?_, ⟨by have := hdr.pats; omega, fun p hp => ?_⟩, ⟨by have := hdr.exprs; omega, fun e he => ?_⟩, by have := hdr.acts; omega, fun a ha => ?_⟩
    · rw [hn]
      exact Nat.le_trans (show (nmK k).size ≤ 2 from Nat.le_refl 2) (by decide)
    · obtain ⟨y, hy, rfl⟩ := List.mem_map.1 hp
      obtain ⟨_, _, hc, ht3, hts⟩ := hpt x hx y hy
      exact ⟨by have := hc.1; omega, by omega, fun t ht => ⟨by have := (hts t ht).1; omega, by have := (hts t ht).2.1.1; omega⟩⟩
    · have := hex x hx e he
      exact ⟨by have := this.1; omega, by have := this.2.1.1; omega⟩
    · exact hdr.trees.le a ha
  · obtain ⟨x, hx, rfl⟩ := List.mem_map.1 hr
    exact ⟨(hex x hx e he).2.2.1, (hex x hx e he).2.2.2⟩
  · obtain ⟨x, hx, rfl⟩ := List.mem_map.1 hr
    obtain ⟨y, hy, rfl⟩ := List.mem_map.1 hp
    obtain ⟨_, _, _, _, hts⟩ := hpt x hx y hy
    exact vok_sm (hts t ht).2.1
  · obtain ⟨x, hx, rfl⟩ := List.mem_map.1 hr
    obtain ⟨i, hi⟩ := List.mem_iff_getElem?.1 hx
    exact (hM i x hi).2
def ByA (w : World) (a : Option Addr) (n : Nat) : Prop := ∀ j, j < n → ∃ (b o : Nat) (u : Nat), a = some ⟨b, o, none⟩ ∧ b < w.heap.size ∧ u < 256 ∧ w.cell? ⟨b, o + j, none⟩ = some (.int .u8 (u : Int))
theorem ByA.below {w w' : World} {a : Option Addr} {n : Nat} (h : ByA w a n) (hb : Below w.heap.size w w') : ByA w' a n := fun j hj => by
  obtain ⟨b, o, u, e1, e2, e3, e4⟩ := h j hj
  exact ⟨b, o, u, e1, Nat.lt_of_lt_of_le e2 hb.size, e3, cell_below hb e4⟩
theorem ByA.rdr {w : World} {a : Option Addr} {n c g : Nat} (h : ByA w a n) (hn : n ≤ 1048576) (hg : w.heap.size = g) : Rdr (w.alloc (.cells #[.slice a n c, .int .i64 0] 58)) g := by
  subst hg
  refine ⟨a, n, c, 0, heap_alloc_new _ _, Nat.zero_le _, hn, fun j hj => ?_⟩
  obtain ⟨b, o, u, e1, e2, e3, e4⟩ := h j hj
  exact ⟨b, o, u, e1, e2, e3, cell_below ((Below.refl _ _).alloc (Nat.le_refl _) _) e4⟩
theorem rs_num {w : World} {base : Nat} {a : Option Addr} {c : Nat} {M : List RuX} (h : RO w base a c M) (hM : MOk M) : ∀ r ∈ M.map RuX.ru, RuN r := by
  intro r hr
  obtain ⟨x, hx, rfl⟩ := List.mem_map.1 hr
  obtain ⟨⟨pa, pc, e1, h1⟩, ⟨ea, ec, e2, h2, h3⟩, _⟩ := h.2 x hx
  obtain ⟨i, hi⟩ := List.mem_iff_getElem?.1 hx
  refine ⟨(hM i x hi).2, fun p hp t ht => ?_, fun e he => ?_⟩
  · obtain ⟨y, hy, rfl⟩ := List.mem_map.1 hp
    obtain ⟨_, _, _, _, hts⟩ := h1.2 y hy
    exact ⟨(hts t ht).2.1.2.2.1, (hts t ht).2.1.2.2.2.1⟩
  · exact ⟨(h3 e he).2.1.2.2.1, (h3 e he).2.1.2.2.2.1⟩
set_option maxRecDepth 100000 in
set_option maxHeartbeats 1600000 in
theorem DrawRules_any (a : Option Addr) (n c : Nat) (w : World) (h : ByA w a n) (hn : n ≤ 1048576) : Calls Tryz.prog 5 #[.slice a n c] w fun e w' => ∃ ra rc rs, e = .returned (.slice ra (List.length rs) rc) ∧ RsOk rs ∧ rs.length ≤ 4 ∧ (∀ r ∈ rs, RuN r) ∧ RusAt none w' ra rs ∧ rs.length ≤ rc ∧ Below w.heap.size w w' := by
  have HB := hidR h
  clear h
  have HA := hidR (fun o => (Below.refl _ _).alloc (Nat.le_refl _) o : ∀ o, Below w.heap.size w (w.alloc o))
  have RD := hidR (HB.out.rdr (c := c) hn (g := w.heap.size) rfl)
  go_enter Tryz.func5, Tryz.ntmps5
  go_wp2_with fail
  refine (l2DrawRules_any w.heap.size 4 _ RD.out (by omega) (by omega)).mono ?_
  rintro e w1 ⟨ra, rc, M, rfl, hM1, hM4, hMK, hRO, hr1⟩
  have HK := hidR (rs_ok hRO hMK hM1 (by omega))
  have HN := hidR (rs_num hRO hMK)
  have MO1 := hidR hRO
  have B1 := hidR (show Below w.heap.size w w1 from (HA.out _).trans (hr1.1.below (by simp) (fun g hg => by injection hg with hg; omega)))
  clear hRO hr1 hMK HB RD HA
  go_wp2_with fail
  go_ret
  exact ⟨ra, rc, M.map RuX.ru, by simp, HK.out, by simpa using hM4, HN.out, MO1.out.rus, by simpa using MO1.out.cap, B1.out⟩
end Go.Proofs.YtgkoiojelckblaaGreatDoor
