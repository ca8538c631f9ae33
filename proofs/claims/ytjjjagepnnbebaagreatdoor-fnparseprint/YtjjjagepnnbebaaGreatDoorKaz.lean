/-
  OUR OWN TEXT. Fwa, Tx13, one behind the other.
-/
import Derived.Test.YtjjjagepnnbebaaGreatDoorKat
import Derived.Test.YtjjjagepnnbebaaGreatDoorKaq
import Derived.Test.YtjjjagepnnbebaaGreatDoorRd0m
import Derived.Test.YtjjjagepnnbebaaGreatDoorKau
import Derived.Test.YtjjjagepnnbebaaGreatDoorKap
import Derived.Test.YtjjjagepnnbebaaGreatDoorKaw
import Derived.Lib.AppendStr
namespace Go.Proofs.YtjjjagepnnbebaaGreatDoor
open Go.RowKit
attribute [local go_sem ↓] Go.wp_at_zero Go.wp_at_succ

theorem rows_own {α β : Type} {R : World → List Value → β → Prop} {cells : α → List Value} {f : α → β} {m : Nat} (hm : ∀ x, (cells x).length = m) (h0 : 0 < m) {w : World} {base : Nat} {t : TypeId} {a : Option Addr} {n c : Nat} {L : List α} (h : w.ownsRow base t m (.slice a n c) n (L.flatMap cells)) (hR : ∀ x ∈ L, R w (cells x) (f x)) : RowsAt R none t m w a (L.map f) := by
  intro i y hy
  rw [List.getElem?_map] at hy
  obtain ⟨x, hx, rfl⟩ := Option.map_eq_some_iff.1 hy
  have key := fun j u (hj : (cells x)[j]? = some u) => owns_cell h (flat_gen (cells := cells) (m := m) hm L i x j u hx hj)
  obtain ⟨k, rfl, _⟩ := key 0 ((cells x)[0]'(by rw [hm]; exact h0)) (by simp)
  refine ⟨k, 0, cells x, rfl, Qb.bare _ _ _, hm x, fun j v hj => ?_, hR x (List.mem_of_getElem? hx)⟩
  obtain ⟨k', e, _, hc, _⟩ := key j v hj
  cases e
  rw [Nat.zero_add]
  exact hc
theorem PO.pts {w : World} {base : Nat} {a : Option Addr} {c : Nat} {L : List PtV} (h : PO w base a c L) : PtsAt none w a (L.map Prod.fst) := by
  refine rows_own (cells := pcells) (fun _ => rfl) (by decide) h.1 (fun x hx => ?_)
  obtain ⟨⟨ta, tc, e⟩, ho, _⟩ := h.2 x hx
  rw [e] at ho
  have ht : TmsAt none w ta x.1.terms := by
    have := rows_own (R := Tm.R) (cells := tmCells) (f := id) (fun _ => rfl) (by decide) ho (fun _ _ => rfl)
    simpa using this
  exact ⟨ta, tc, by rw [pcells, e], ht, own_capA ho⟩
theorem AcO.acs {w : World} {base : Nat} {a : Option Addr} {c : Nat} {Y : List AcV} (h : AcO w base a c Y) : AcsAt none w a (Y.map Prod.fst) := by
  refine rows_own (cells := acells) (fun _ => rfl) (by decide) h.1 (fun x hx => ?_)
  obtain ⟨⟨ta, tc, e⟩, ho⟩ := h.2 x hx
  rw [e] at ho
  exact ⟨ta, tc, by rw [acells, e], IntsAt.owns ho⟩
theorem RO.rus {w : World} {base : Nat} {a : Option Addr} {c : Nat} {M : List RuX} (h : RO w base a c M) : RusAt none w a (M.map RuX.ru) := by
  refine rows_own (cells := rcells) (fun _ => rfl) (by decide) h.1 (fun x hx => ?_)
  obtain ⟨⟨pa, pc, e1, h1⟩, ⟨ea, ec, e2, h2, _⟩, aa, ac, e3, h3⟩ := h.2 x hx
  have he : ExsAt none w ea x.es := by
    have := rows_own (R := Ex.R) (cells := exCells) (f := id) (fun _ => rfl) (by decide) h2 (fun _ _ => rfl)
    simpa using this
  exact ⟨pa, pc, ea, ec, aa, ac, by unfold rcells; rw [e1, e2, e3]; simp [RuX.ru], h1.pts, he, h3.acs, own_capA h2⟩
theorem RO.cap {w : World} {base : Nat} {a : Option Addr} {c : Nat} {M : List RuX} (h : RO w base a c M) : M.length ≤ c := own_capA h.1
theorem gSym_small {s : ByteArray} (h : gSym s.data.toList = true) : s.size ≤ 1048576 := by
  simp only [gSym, Bool.and_eq_true, decide_eq_true_eq] at h
  have : s.data.toList.length = s.size := Array.length_toList
  omega
theorem isE_small {s : ByteArray} (h : isE s = true) : s.size ≤ 1048576 := by
  rw [bytes_emptyA h]
  exact Nat.zero_le _
theorem cls_small {a : Ac} (h : fieldsOk a = true) : a.cls.size ≤ 1048576 := by
  unfold fieldsOk at h
  split at h
  · simp only [gCls, Bool.and_eq_true] at h
    exact gSym_small h.1.1
  · split at h
    · simp only [Bool.and_eq_true] at h
      exact isE_small h.1.1
    · split at h
      · simp only [Bool.and_eq_true] at h
        exact isE_small h.1
      · split at h
        · simp only [Bool.and_eq_true] at h
          exact isE_small h.1
        · cases h
theorem ActsT.le {K : List ByteArray} {pos : Nat} : ∀ {us : List Ac} {n : Nat} {ys : List Ex}, ActsT K pos n ys us → ∀ a ∈ us, Ac.le 1048576 a
  | [], n, ys, h => by simp
  | x :: r, n, ys, h => by
    obtain ⟨A, C, rfl, hA, hx, hC⟩ := h
    intro a ha
    rcases List.mem_cons.1 ha with rfl | ha
    · exact ⟨cls_small hx.1, by omega⟩
    · exact ActsT.le hC a ha
/-- What is known of rules that were drawn. -/
structure RsOk (rs : List Ru) : Prop where
  len : 1 ≤ rs.length ∧ rs.length ≤ 8
  chk : chk rs = (0, 0, 0)
  le : ListLe Ru.le 1048576 rs
  ops : ∀ x ∈ rs, OpsOk x.exprs
  vok : ∀ r ∈ rs, ∀ p ∈ r.pats, ∀ t ∈ p.terms, VOk t.val
  sal : ∀ r ∈ rs, -9223372036854775808 ≤ r.sal ∧ r.sal ≤ 9223372036854775807
theorem vok_sm {v : V} (h : VSm v) : VOk v := by
  obtain ⟨h1, ⟨h2, h3⟩, h4, h5, _⟩ := h
  exact ⟨wf_rangeA h2 h3, wf_rangeA h4 h5, by unfold maxLen; omega⟩
theorem rs_ok {w : World} {base : Nat} {a : Option Addr} {c : Nat} {M : List RuX} (h : RO w base a c M) (hM : MOk M) (h1 : 1 ≤ M.length) (h8 : M.length ≤ 8) : RsOk (M.map RuX.ru) := by
  have hpt : ∀ x ∈ M, ∀ y ∈ x.pats, PtX w base y := fun x hx y hy => by
    obtain ⟨⟨pa, pc, e1, h1⟩, _⟩ := h.2 x hx
    exact h1.2 y hy
  have hex : ∀ x ∈ M, ∀ e ∈ x.es, ExSm e := fun x hx => by
    obtain ⟨_, ⟨_, _, _, _, h3⟩, _⟩ := h.2 x hx
    exact h3
  have hd : ∀ x ∈ M, ∃ k, DRu k x.ru := fun x hx => by
    obtain ⟨i, hi⟩ := List.mem_iff_getElem?.1 hx
    exact ⟨i, (hM i x hi).1⟩
  refine ⟨by simpa using And.intro h1 h8, chk_drawn (fun i r hr => ?_) (by simp; omega), ⟨by simp; omega, fun r hr => ?_⟩, fun r hr e he => ?_, fun r hr p hp t ht => ?_, fun r hr => ?_⟩
  · rw [List.getElem?_map] at hr
    obtain ⟨x, hx, rfl⟩ := Option.map_eq_some_iff.1 hr
    exact (hM i x hx).1
  · obtain ⟨x, hx, rfl⟩ := List.mem_map.1 hr
    obtain ⟨k, hn, K, pos, hdr⟩ := hd x hx
    refine ⟨?_, ⟨by have := hdr.pats; omega, fun p hp => ?_⟩, ⟨by have := hdr.exprs; omega, fun e he => ?_⟩, by have := hdr.acts; omega, fun a ha => ?_⟩
    · rw [hn]
      exact Nat.le_trans (show (nmK k).size ≤ 2 from Nat.le_refl 2) (by decide)
    · obtain ⟨y, hy, rfl⟩ := List.mem_map.1 hp
      obtain ⟨_, _, hc, ht3, hts⟩ := hpt x hx y hy
      exact ⟨by have := hc.1; omega, by omega, fun t ht => ⟨by have := (hts t ht).1; omega, by have := (hts t ht).2.1.1; omega⟩⟩
    · have := hex x hx e he
      exact ⟨by have := this.1; omega, by have := this.2.1.1; omega⟩
    · exact hdr.trees.le a ha
  · obtain ⟨x, hx, rfl⟩ := List.mem_map.1 hr
    exact ⟨(hex x hx e he).2.2.1, (hex x hx e he).2.2.2⟩
  · obtain ⟨x, hx, rfl⟩ := List.mem_map.1 hr
    obtain ⟨y, hy, rfl⟩ := List.mem_map.1 hp
    obtain ⟨_, _, _, _, hts⟩ := hpt x hx y hy
    exact vok_sm (hts t ht).2.1
  · obtain ⟨x, hx, rfl⟩ := List.mem_map.1 hr
    obtain ⟨i, hi⟩ := List.mem_iff_getElem?.1 hx
    exact (hM i x hi).2
theorem bys_rdr {w : World} {a : Option Addr} {B : Bs} {c g : Nat} (h : BysAt w a B) (hn : B.length ≤ 1048576) (hg : w.heap.size = g) : Rdr (w.alloc (.cells #[.slice a B.length c, .int .i64 0] 44)) g B := by
  subst hg
  refine ⟨a, B, c, 0, heap_alloc_new _ _, Nat.zero_le _, hn, rfl, fun j x hj => ?_⟩
  obtain ⟨b, o, e1, e2, e4⟩ := h j x hj
  exact ⟨b, o, e1, e2, cell_below ((Below.refl _ _).alloc (Nat.le_refl _) _) e4⟩
theorem rs_num {w : World} {base : Nat} {a : Option Addr} {c : Nat} {M : List RuX} (h : RO w base a c M) (hM : MOk M) : ∀ r ∈ M.map RuX.ru, RuN r := by
  intro r hr
  obtain ⟨x, hx, rfl⟩ := List.mem_map.1 hr
  obtain ⟨⟨pa, pc, e1, h1⟩, ⟨ea, ec, e2, h2, h3⟩, _⟩ := h.2 x hx
  obtain ⟨i, hi⟩ := List.mem_iff_getElem?.1 hx
  refine ⟨(hM i x hi).2, fun p hp t ht => ?_, fun e he => ?_⟩
  · obtain ⟨y, hy, rfl⟩ := List.mem_map.1 hp
    obtain ⟨_, _, _, _, hts⟩ := h1.2 y hy
    exact ⟨(hts t ht).2.1.2.2.1, (hts t ht).2.1.2.2.2.1⟩
  · exact ⟨(h3 e he).2.1.2.2.1, (h3 e he).2.1.2.2.2.1⟩
set_option maxRecDepth 100000 in
set_option maxHeartbeats 1600000 in
theorem DrawRules_any (B : Bs) (a : Option Addr) (c : Nat) (w : World) (h : BysAt w a B) (hn : B.length ≤ 1048576) : Calls Tryz.prog 6 #[.slice a B.length c] w fun e w' => ∃ ra rc rs, e = .returned (.slice ra (List.length rs) rc) ∧ RsOk rs ∧ rs.length ≤ 4 ∧ (∀ r ∈ rs, RuN r) ∧ RusAt none w' ra rs ∧ rs.length ≤ rc ∧ Below w.heap.size w w' ∧ Hid (rs = (drRules nmK 4 B).1) := by
  have HB := hidR h
  clear h
  have HA := hidR (fun o => (Below.refl _ _).alloc (Nat.le_refl _) o : ∀ o, Below w.heap.size w (w.alloc o))
  have RD := hidR (bys_rdr (c := c) HB.out hn (g := w.heap.size) rfl)
  go_enter Tryz.func6, Tryz.ntmps6
  go_wp2_with fail
  refine (l2DrawRules_any w.heap.size 4 B _ RD.out (by omega) (by omega)).mono ?_
  rintro e w1 ⟨ra, rc, M, rfl, hM1, hM4, hMK, hRO, hr1, hME⟩
  have HK := hidR (rs_ok hRO hMK hM1 (by omega))
  have HN := hidR (rs_num hRO hMK)
  have MO1 := hidR hRO
  have B1 := hidR (show Below w.heap.size w w1 from (HA.out _).trans (hr1.1.below (by simp) (fun g hg => by injection hg with hg; omega)))
  clear hRO hr1 hMK HB RD HA
  go_wp2_with fail
  go_ret
  exact ⟨ra, rc, M.map RuX.ru, by simp, HK.out, by simpa using hM4, HN.out, MO1.out.rus, by simpa using MO1.out.cap, B1.out, hME⟩
end Go.Proofs.YtjjjagepnnbebaaGreatDoor

namespace Go.Proofs.YtjjjagepnnbebaaGreatDoor
open Go.RowKit
attribute [local go_sem ↓] Go.wp_at_zero Go.wp_at_succ

theorem infoU8 : (Tryz.prog.info? 5).map (fun i => (i.zero, i.size, i.bytes)) = some (some (.int .u8 0), 1, 1) := by kernel_rfl
theorem strCells_byV (l : Bs) : Lib.strCells (mkS l) = byV l := rfl
theorem byV_app (l l' : Bs) : byV (l ++ l') = byV l ++ byV l' := List.map_append
theorem own_form {w : World} {base n : Nat} {e : TypeId} {m : Nat} {v : Value} {xs : List Value} (h : w.ownsRow base e m v n xs) (hn : xs.length = n) : ∃ a c, v = .slice a n c := by
  rcases h.2 with ⟨rfl, rfl⟩ | ⟨g, cap, cur, rfl, _⟩
  · simp at hn
    subst hn
    exact ⟨none, 0, rfl⟩
  · exact ⟨_, _, rfl⟩
/-- What is answered: owned bytes. -/
def PrnP (w : World) (l : Bs) (e : Ending) (w' : World) : Prop := (∃ a c, e = .returned (.slice a l.length c) ∧ w'.ownsRow w.heap.size 5 1 (.slice a l.length c) l.length (byV l)) ∧ Below w.heap.size w w'
theorem flat_take_leX {α β : Type} (g : α → List β) (l : List α) (j : Nat) : ((l.take j).flatMap g).length ≤ (l.flatMap g).length := by
  have h : l.flatMap g = (l.take j).flatMap g ++ (l.drop j).flatMap g := by
    rw [← List.flatMap_append, List.take_append_drop]
  rw [h, List.length_append]
  omega
theorem prnt_yes {rs : List Ru} (h : (chk rs).1 = 0) : prnt rs = txRs rs := if_pos h
theorem prnt_no {rs : List Ru} (h : ¬ (chk rs).1 = 0) : prnt rs = [] := if_neg h

set_option maxHeartbeats 3200000 in
theorem iPrint_any (rs : List Ru) (a : Option Addr) (c : Nat) (q : Option Nat) (w : World) (hv : RusAt q w a rs) (hc : rs.length ≤ c) (hle : ListLe Ru.le 1048576 rs) (ho : ∀ x ∈ rs, OpsOk x.exprs) (hn : ∀ x ∈ rs, RuN x) (hV : VarsAt w) :
    Calls Tryz.prog 5 #[.slice a rs.length c] w (PrnP w (prnt rs)) := by
  have HC : Hid (Calls Tryz.prog 9 #[.slice a rs.length c] w fun e w' => e = .returned (ckV (chk rs)) ∧ Below w.heap.size w w') := iCheckRules_any a c rs w hv hc hle ho
  unfold ckV at HC
  by_cases hp : (chk rs).1 = 0
  · rw [prnt_yes hp]
    obtain ⟨h16, hT⟩ := chk_T hp hn
    rw [hp] at HC
    generalize (chk rs).2.1 = p1 at HC
    generalize (chk rs).2.2 = p2 at HC
    have HV := hidX hv
    have HVA := hidX hV
    have HT := hidX hT
    have hlen := txRs_le h16 hT
    have hfd : ∀ w : World, (Instr.field 31 (.agg #[.int .i64 0, .int .i64 p1, .int .i64 p2]) 0).run Tryz.prog w = .ok (.int .i64 0) w := fun _ => by kernel_rfl
    clear hv hV hT hle ho hn hp
    go_enter Tryz.func5, Tryz.ntmps5
    go_wp2_with (go_at_call 9; with_reducible refine HC.out.mono ?_; rintro e w1 ⟨rfl, hb1⟩)
    clear hfd
    obtain ⟨it, hi, hz0, hz1, hz2⟩ := info_parts infoU8
    have HI := hidX (show Tryz.prog.info? 5 = some it ∧ it.zero = some (.int .u8 0) ∧ it.size = 1 ∧ it.bytes = 1 from ⟨hi, hz0, hz1, hz2⟩)
    clear hi hz0 hz1 hz2
    go_loopw [3, 12] (fun sv iv wr => ∃ (k : Nat) (a' : Option Addr) (c' : Nat), k ≤ rs.length ∧ iv = .int .i64 (k : Int) ∧ sv = .slice a' (txRs (rs.take k)).length c' ∧ wr.ownsRow w.heap.size 5 1 (.slice a' (txRs (rs.take k)).length c') (txRs (rs.take k)).length (byV (txRs (rs.take k))) ∧ Below w.heap.size w wr) (fun _ iv _ => rs.length - (intOf iv).toNat)
    case atStart => exact ⟨0, none, 0, Nat.zero_le _, rfl, rfl, World.ownsRow_nil _ _ _ _, hb1⟩
    case round =>
      obtain ⟨k, a', c', hk, rfl, rfl, hown, hb⟩ := hrel
      have HR := hidX hown
      have HB := hidX hb
      have hsz := hb.size
      clear hown hb hb1
      by_cases hkl : k < rs.length
      · obtain ⟨x, hx⟩ : ∃ x, rs[k]? = some x := ⟨rs[k], by simp [hkl]⟩
        have hxT := HT.out x (List.mem_of_getElem? hx)
        obtain ⟨b, o, a1, c1, a2, c2, a3, c3, rfl, _, t0, t1, t2, t3, t4, hpt, hex, hac, _⟩ := (HV.out.below HB.out).get hx
        have HPT := hidX hpt
        have HEX := hidX hex
        have HAC := hidX hac
        have i0 : (0 : Int) ≤ (k : Int) := by omega
        have i1 : (k : Int) < (rs.length : Int) := by omega
        have HLT : Hid (txRs (rs.take (k + 1)) = txRs (rs.take k) ++ txR x) := flat_takeS txR hx
        have hl1 : (txRs (rs.take k)).length + (txR x).length ≤ 42000000000 := by
          have h1 := congrArg List.length HLT.out
          have h2 := flat_take_leX txR rs (k + 1)
          rw [List.length_append] at h1
          have h3 : (txRs (rs.take (k + 1))).length ≤ (txRs rs).length := h2
          omega
        have HA := hidX (fun o => (Below.refl _ _).alloc (Nat.le_refl _) o : ∀ o, Below wr.heap.size wr (wr.alloc o))
        have HVR := hidX (fun o => (HVA.out.below HB.out).below (HA.out o))
        clear hpt hex hac hx
        obtain ⟨n, hn⟩ : ∃ n, n = (txRs (rs.take k)).length := ⟨_, rfl⟩
        obtain ⟨X, hX⟩ : ∃ X, X = txRs (rs.take k) := ⟨_, rfl⟩
        rw [← hn] at HR hl1
        rw [← hX] at HR HLT hn
        rw [← hX, ← hn]
        have HN := hidX hn
        clear hX hn
        go_wp2_with (go_at_call 13; refine (rText_any x a1 c1 a2 c2 a3 c3 q _ (HPT.out.below (HA.out _)) (HEX.out.below (HA.out _)) (HAC.out.below (HA.out _)) hxT (HVR.out _)).mono ?_; rintro e w3 ⟨rfl, hb3⟩; refine Hid.out ?_)
        refine hidX ?_
        have hb3' := (HA.out _).trans (hb3.mono (HA.out _).size)
        have HR3 := hidX (own_bel HR.out hb3')
        have HB3 := hidX (HB.out.trans (hb3'.mono hsz))
        have hs3 := hb3'.size
        clear hb3 hb3' t0 t1 t2 t3 t4
        go_wp2_with (at_builtin; refine Lib.wpList_append_own_string w3 (by rfl) (.tmp 16) (.tmp 18) 22 9 (by rfl) w.heap.size 5 it Tryz.underlying22 Tryz.underlying9 HI.out.1 HI.out.2.1 HI.out.2.2.1 HI.out.2.2.2 _ n _ (by rfl) HR3.out (mkS (txR x)) (by rfl) (by unfold maxLen; rw [mkS_size]; omega) (by rw [mkS_size]; omega) (by omega) ?_; intro v4 w4 ho4 hg4 _)
        rw [mkS_size, strCells_byV, ← byV_app, ← HLT.out] at ho4
        have HB4 := hidX (HB3.out.grown hg4 (by omega) (fun j hj => (HR3.out.lt j hj).1))
        have hn2 : n + (txR x).length = (txRs (rs.take (k + 1))).length := by rw [HLT.out, List.length_append, HN.out]
        rw [hn2] at ho4
        obtain ⟨a4, c4, rfl⟩ := own_form ho4 (byV_len _)
        clear hn2
        go_wp2
        go_roundw
        case rel => exact ⟨k + 1, a4, c4, by omega, by go_num, rfl, ho4, HB4.out⟩
        case measure => (simp [intOf]; omega)
      · obtain rfl : k = rs.length := by omega
        have i1 : ¬ (rs.length : Int) < (rs.length : Int) := by omega
        go_wp2
        go_ret
        have h := HR.out
        rw [List.take_length] at h
        exact ⟨⟨a', c', rfl, h⟩, HB.out⟩
  · rw [prnt_no hp]
    generalize (chk rs).1 = p0 at HC hp
    generalize (chk rs).2.1 = p1 at HC
    generalize (chk rs).2.2 = p2 at HC
    have hp' : (p0 != 0) = true := by simpa using hp
    have hfd : ∀ w : World, (Instr.field 31 (.agg #[.int .i64 p0, .int .i64 p1, .int .i64 p2]) 0).run Tryz.prog w = .ok (.int .i64 p0) w := fun _ => by kernel_rfl
    clear hv hV hle ho hn hp
    go_enter Tryz.func5, Tryz.ntmps5
    go_wp2_with (go_at_call 9; with_reducible refine HC.out.mono ?_; rintro e w1 ⟨rfl, hb1⟩)
    go_ret
    exact ⟨⟨none, 0, rfl, World.ownsRow_nil _ _ _ _⟩, hb1⟩
end Go.Proofs.YtjjjagepnnbebaaGreatDoor
