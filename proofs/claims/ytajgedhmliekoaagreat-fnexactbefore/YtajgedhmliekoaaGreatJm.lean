/-
  OUR OWN TEXT. Bf6, Bf7, one behind the other.
-/
import Derived.Test.YtajgedhmliekoaaGreatJg
import Derived.Test.YtajgedhmliekoaaGreatRc2m
import Derived.Test.YtajgedhmliekoaaGreatSc7m
import Derived.Test.YtajgedhmliekoaaGreatJl
import Derived.BigQuiet
namespace Go.Proofs.YtajgedhmliekoaaGreat
open Go.RowKit
attribute [local go_sem ↓] Go.wp_at_zero Go.wp_at_succ

theorem hidS {p : Prop} (h : p) : Hid p := h
theorem retIs {a b : Int} (h : b = a) : Ending.returned (.int .i64 a) = .returned (.int .i64 b) := by rw [h]
theorem lexT_drop {xs ys : List Int} {k : Nat} {x y : Int} (hx : xs[k]? = some x) (hy : ys[k]? = some y) : lexT (xs.drop k) (ys.drop k) = if x < y then -1 else if y < x then 1 else lexT (xs.drop (k + 1)) (ys.drop (k + 1)) := by
  rw [drop_cons hx, drop_cons hy, lexT]
theorem lexT_end {xs ys : List Int} {k : Nat} (hx : k ≤ xs.length) (hy : k ≤ ys.length) (h : k = xs.length ∨ k = ys.length) : lexT (xs.drop k) (ys.drop k) = (xs.length : Int) - (ys.length : Int) := by
  rcases h with h | h
  · rw [(List.drop_eq_nil_of_le (by omega) : xs.drop k = []), lexT, List.length_drop]
    omega
  · rw [(List.drop_eq_nil_of_le (by omega) : ys.drop k = [])]
    cases hd : xs.drop k with
    | nil =>
      have : xs.length - k = 0 := by rw [← List.length_drop, hd]; rfl
      simp [lexT]
      omega
    | cons z r =>
      have : (z :: r).length = xs.length - k := by rw [← hd, List.length_drop]
      rw [lexT, this]
      omega

set_option maxHeartbeats 1600000 in
theorem l5Tags_any (a a' : Option Addr) (c c' : Nat) (xs ys : List Int) (w : World) {q q' : Option Nat} (hv : IntsAt q w a xs) (hv' : IntsAt q' w a' ys) (hl : xs.length ≤ 1048576) (hl' : ys.length ≤ 1048576) :
    Calls Tryz.prog 47 #[.slice a xs.length c, .slice a' ys.length c'] w fun e w' => e = .returned (.int .i64 (lexT xs ys)) ∧ Below w.heap.size w w' := by
  go_enter Tryz.func47, Tryz.ntmps47
  go_wp2
  go_loopw [5] (fun i wr => ∃ (k : Nat), k ≤ xs.length ∧ k ≤ ys.length ∧ i = .int .i64 k ∧ lexT xs ys = lexT (xs.drop k) (ys.drop k) ∧ Below w.heap.size w wr) (fun i _ => xs.length - (intOf i).toNat)
  case atStart => exact ⟨0, by omega, by omega, rfl, rfl, Below.refl _ _⟩
  case round =>
    obtain ⟨k, hk, hk', rfl, hG, hb⟩ := hrel
    have HG := hidS hG
    clear hG
    by_cases hkl : k < xs.length
    · obtain ⟨x, hxk⟩ : ∃ x, xs[k]? = some x := ⟨xs[k], by simp [hkl]⟩
      obtain ⟨b, o, rfl, hq, d0⟩ := (hv.below hb).get hxk
      by_cases hkl' : k < ys.length
      · obtain ⟨y, hyk⟩ : ∃ y, ys[k]? = some y := ⟨ys[k], by simp [hkl']⟩
        obtain ⟨b', o', rfl, hq', d1⟩ := (hv'.below hb).get hyk
        have HL := hidS (lexT_drop hxk hyk)
        have z0 : (k : Int) < (xs.length : Int) := by omega
        have z1 : (k : Int) < (ys.length : Int) := by omega
        by_cases h1 : x < y
        · have HE := hidS (show lexT xs ys = -1 from by rw [HG.out, HL.out, if_pos h1])
          go_wp2
          go_region
          go_wp2
          go_ret
          exact ⟨retIs HE.out, hb.drew⟩
        · by_cases h2 : y < x
          · have HE := hidS (show lexT xs ys = 1 from by rw [HG.out, HL.out, if_neg h1, if_pos h2])
            go_wp2
            go_region
            go_wp2
            go_region
            go_wp2
            go_ret
            exact ⟨retIs HE.out, hb.drew.drew⟩
          · have HE := hidS (show lexT xs ys = lexT (xs.drop (k + 1)) (ys.drop (k + 1)) from by rw [HG.out, HL.out, if_neg h1, if_neg h2])
            go_wp2
            go_region
            go_wp2
            go_region
            go_wp2
            go_roundw
            case rel => exact ⟨k + 1, by omega, by omega, by go_num, HE.out, hb.drew.drew⟩
            case measure => simp [intOf]; omega
      · have HE := hidS (lexT_end hk hk' (.inr (by omega)))
        have z1 : ¬ (k : Int) < (ys.length : Int) := by omega
        have hw : IntKind.i64.wrap ((xs.length : Int) - (ys.length : Int)) = (xs.length : Int) - (ys.length : Int) := by rw [IntKind.wrap_i64]; omega
        go_wp2
        go_ret
        exact ⟨retIs (by rw [HG.out, HE.out]), hb⟩
    · have HE := hidS (lexT_end hk hk' (.inl (by omega)))
      have z1 : ¬ (k : Int) < (xs.length : Int) := by omega
      have hw : IntKind.i64.wrap ((xs.length : Int) - (ys.length : Int)) = (xs.length : Int) - (ys.length : Int) := by rw [IntKind.wrap_i64]; omega
      go_wp2
      go_ret
      exact ⟨retIs (by rw [HG.out, HE.out]), hb⟩

set_option maxHeartbeats 800000 in
theorem l5There_any (rs : List Ru) (a : Option Addr) (c : Nat) (x : In) (at' : Option Addr) (ct : Nat) (w : World) (hl : rs.length ≤ 1048576) (ht : x.tags.length ≤ 1048576) :
    Calls Tryz.prog 21 #[.slice a rs.length c, .agg #[.int .i64 x.rule, .slice at' x.tags.length ct]] w fun e w' => e = .returned (.bool (placedI rs x)) ∧ Below w.heap.size w w' := by
  have HP : Hid (placedI rs x = (decide (0 ≤ x.rule) && (decide (x.rule < (rs.length : Int)) && decide (x.tags.length ≤ 3)))) := rfl
  have B0 : ∀ o, Below w.heap.size w (w.alloc o) := fun o => (Below.refl _ _).alloc (Nat.le_refl _) _
  by_cases h1 : 0 ≤ x.rule <;> by_cases h2 : x.rule < (rs.length : Int) <;> by_cases h3 : x.tags.length ≤ 3
  all_goals
    first
    | (exfalso; omega; done)
    | (go_enter Tryz.func21, Tryz.ntmps21
       go_wp2
       go_ret
       exact ⟨ret_bool (by rw [HP.out]; first | (simp [h1, h2, h3]; done) | (simp [h1, h2, h3]; omega)), B0 _⟩)

set_option maxHeartbeats 800000 in
theorem l2Checked_any (rs : List Ru) (a : Option Addr) (c : Nat) {q : Option Nat} (w : World) (hv : RusAt q w a rs) (hc : rs.length ≤ c) (hle : ListLe Ru.le 1048576 rs) (ho : ∀ x ∈ rs, OpsOk x.exprs) :
    Calls Tryz.prog 22 #[.slice a rs.length c] w fun e w' => e = .returned (.bool (decide ((chk rs).1 = 0))) ∧ Below w.heap.size w w' := by
  have HC := hidS (sCheckRules_any a c rs q w hv hc hle ho)
  unfold ckV at HC
  by_cases hp : (chk rs).1 = 0
  · have hz := chk_zero hp
    rw [hz] at HC ⊢
    go_enter Tryz.func22, Tryz.ntmps22
    go_wp2_with (go_at_call 46; with_reducible refine HC.out.mono ?_; rintro e w1 ⟨rfl, hb1⟩)
    go_ret
    exact ⟨rfl, hb1⟩
  · generalize (chk rs).1 = p0 at HC hp ⊢
    generalize (chk rs).2.1 = p1 at HC
    generalize (chk rs).2.2 = p2 at HC
    go_enter Tryz.func22, Tryz.ntmps22
    go_wp2_with (go_at_call 46; with_reducible refine HC.out.mono ?_; rintro e w1 ⟨rfl, hb1⟩)
    go_ret
    exact ⟨ret_bool (by simp [hp]), hb1⟩
end Go.Proofs.YtajgedhmliekoaaGreat

namespace Go.Proofs.YtajgedhmliekoaaGreat
open Go.RowKit
attribute [local go_sem ↓] Go.wp_at_zero Go.wp_at_succ

theorem placed_at {rs : List Ru} {x : In} (h : placedI rs x = true) : ∃ (i : Nat) (r : Ru), x.rule = (i : Int) ∧ rs[i]? = some r ∧ salOf rs x = r.sal ∧ i < rs.length ∧ x.tags.length ≤ 3 := by
  simp only [placedI, Bool.and_eq_true, decide_eq_true_eq] at h
  obtain ⟨h1, h2, h3⟩ := h
  have hlt : x.rule.toNat < rs.length := by omega
  refine ⟨x.rule.toNat, rs[x.rule.toNat], by omega, List.getElem?_eq_getElem hlt, ?_, hlt, h3⟩
  unfold salOf
  rw [List.getElem?_eq_getElem hlt]
  rfl
theorem befS_1 {rs : List Ru} {a b : In} (h : salOf rs a ≠ salOf rs b) : befS rs a b = decide (salOf rs b < salOf rs a) := by unfold befS; rw [if_pos h]
theorem befS_2 {rs : List Ru} {a b : In} (h : salOf rs a = salOf rs b) (h2 : lexT (recA a.tags) (recA b.tags) ≠ 0) : befS rs a b = decide (0 < lexT (recA a.tags) (recA b.tags)) := by unfold befS; rw [if_neg (by simp [h]), if_pos h2]
theorem befS_3 {rs : List Ru} {a b : In} (h : salOf rs a = salOf rs b) (h2 : lexT (recA a.tags) (recA b.tags) = 0) (h3 : a.rule ≠ b.rule) : befS rs a b = decide (a.rule < b.rule) := by unfold befS; rw [if_neg (by simp [h]), if_neg (by simp [h2]), if_pos h3]
theorem befS_4 {rs : List Ru} {a b : In} (h : salOf rs a = salOf rs b) (h2 : lexT (recA a.tags) (recA b.tags) = 0) (h3 : a.rule = b.rule) : befS rs a b = decide (lexT a.tags b.tags < 0) := by unfold befS; rw [if_neg (by simp [h]), if_neg (by simp [h2]), if_neg (by simp [h3])]

set_option maxRecDepth 100000 in
set_option maxHeartbeats 3200000 in
theorem l5Before_any (rs : List Ru) (a : Option Addr) (c : Nat) (x y : In) (ax ay : Option Addr) (cx cy : Nat) (w : World) {q q1 q2 : Option Nat} (hv : RusAt q w a rs) (hx : IntsAt q1 w ax x.tags) (hy : IntsAt q2 w ay y.tags) (hpx : placedI rs x = true) (hpy : placedI rs y = true) :
    Calls Tryz.prog 23 #[.slice a rs.length c, .agg #[.int .i64 x.rule, .slice ax x.tags.length cx], .agg #[.int .i64 y.rule, .slice ay y.tags.length cy]] w fun e w' => e = .returned (.bool (befS rs x y)) ∧ Below w.heap.size w w' := by
  obtain ⟨i, r, hi, hr, hsx, hil, hx3⟩ := placed_at hpx
  obtain ⟨j, s, hj, hs, hsy, hjl, hy3⟩ := placed_at hpy
  have E1 := hidS (befS_1 (rs := rs) (a := x) (b := y))
  have E2 := hidS (befS_2 (rs := rs) (a := x) (b := y))
  have E3 := hidS (befS_3 (rs := rs) (a := x) (b := y))
  have E4 := hidS (befS_4 (rs := rs) (a := x) (b := y))
  rw [hsx, hsy] at E1 E2 E3 E4
  rw [hi, hj] at E3 E4 ⊢
  obtain ⟨br, orr, _, _, _, _, _, _, rfl, _, _, dx, _⟩ := hv.get hr
  obtain ⟨br', orr', _, _, _, _, _, _, e, _, _, dy, _⟩ := hv.get hs
  simp only [Option.some.injEq, Addr.mk.injEq, and_true] at e
  obtain ⟨rfl, rfl⟩ := e
  have B2 : ∀ o o', Below w.heap.size w ((w.alloc o).alloc o') := fun o o' => ((Below.refl _ _).alloc (Nat.le_refl _) _).alloc (by simp) _
  have DX := hidS (fun o o' => cell_below (B2 o o') dx)
  have DY := hidS (fun o o' => cell_below (B2 o o') dy)
  have hlr := World.block_lt_of_cell? w ⟨br, _, none⟩ dx
  have hii : (i : Int) < (rs.length : Int) := by omega
  have hjj : (j : Int) < (rs.length : Int) := by omega
  have HRX := hidS (fun o o' => sRec_any ax cx x.tags (((w.alloc o).alloc o').drew) (hx.below (B2 o o').drew) (by omega))
  have HRY := hidS (fun w1 (h1 : Below w.heap.size w w1) => sRec_any ay cy y.tags w1 (hy.below h1) (by omega))
  have HTG := hidS (fun w1 a1 c1 a2 c2 (h1 : IntsAt none w1 a1 (recA x.tags)) (h2 : IntsAt none w1 a2 (recA y.tags)) => l5Tags_any a1 a2 c1 c2 (recA x.tags) (recA y.tags) w1 h1 h2 (by have := recA_len x.tags; omega) (by have := recA_len y.tags; omega))
  have HTT := hidS (fun w1 (h1 : Below w.heap.size w w1) => l5Tags_any ax ay cx cy x.tags y.tags w1 (hx.below h1) (hy.below h1) (by omega) (by omega))
  generalize hR : befS rs x y = R at *
  generalize lexT (recA x.tags) (recA y.tags) = t1 at *
  generalize lexT x.tags y.tags = t2 at *
  have HB2 := hidS B2
  have d1 : ∀ o o', ((w.alloc o).alloc o').cell? ⟨br, orr + i * 5 + 1, none⟩ = some (.int .i64 r.sal) := fun o o' => DX.out o o'
  have d2 : ∀ o o', ((w.alloc o).alloc o').cell? ⟨br, orr + j * 5 + 1, none⟩ = some (.int .i64 s.sal) := fun o o' => DY.out o o'
  clear hR hv hx hy hr hs hsx hsy hi hj dx dy DX DY B2 hpx hpy
  by_cases h1 : r.sal = s.sal
  · have HE1 := hidS h1
    rw [h1] at d1
    clear h1
    go_enter Tryz.func23, Tryz.ntmps23
    go_wp2_with fail
    go_region_held3 (fun w' => w'.cell? ⟨w.heap.size, 0, none⟩ = some (.int .i64 (i : Int)) ∧ w'.cell? ⟨w.heap.size, 1, none⟩ = some (.slice ax x.tags.length cx) ∧ w'.cell? ⟨w.heap.size + 1, 0, none⟩ = some (.int .i64 (j : Int)) ∧ w'.cell? ⟨w.heap.size + 1, 1, none⟩ = some (.slice ay y.tags.length cy)) (first | (go_split_ands; (refine ⟨?_, ?_, ?_, ?_⟩ <;> first | with_reducible assumption | (simp [*]; done) | with_reducible exact cell_below hb1 (by assumption) | with_reducible exact cell_below hb2 (by assumption) | with_reducible exact cell_below hb3 (by assumption)); done) | fail)
      (first
        | (go_at_call 48; with_reducible refine (HRX.out _ _).mono ?_; rintro e w1 ⟨⟨a1, c1, rfl, o1⟩, hb1⟩; have hB1 : Below w.heap.size w w1 := (HB2.out _ _).drew.trans (hb1.mono (by simp; omega)))
        | (go_at_call 48; with_reducible refine (HRY.out w1 hB1).mono ?_; rintro e w2 ⟨⟨a2, c2, rfl, o2⟩, hb2⟩; have o1' := owns_of_block o1 (fun g hg => hb2.block g (o1.lt g hg).2))
        | (go_at_call 47; with_reducible refine (HTG.out w2 a1 c1 a2 c2 (IntsAt.owns o1') (IntsAt.owns o2)).mono ?_; rintro e w3 ⟨rfl, hb3⟩)
        | fail)
    rename_i hHld
    obtain ⟨k0, k1, k2, k3⟩ := hHld
    have hB3 : Below w.heap.size w w3 := (hB1.trans (hb2.mono hB1.size)).trans (hb3.mono (by have := hB1.size; have := hb2.size; omega))
    have HB3 := hidS hB3
    have HT3 := hidS (HTT.out w3 hB3)
    clear HRX HRY HTG HTT o1 o1' o2 hb1 hb2 hb3 hB1 hB3 d1 d2
    by_cases h2 : t1 = 0
    · subst h2
      by_cases h3 : i = j
      · subst h3
        have HE := hidS (E4.out HE1.out rfl rfl)
        clear E1 E2 E3 E4
        go_wp2_with (go_at_call 47; with_reducible refine HT3.out.mono ?_; rintro e w4 ⟨rfl, hb4⟩)
        go_ret
        exact ⟨ret_bool HE.out.symm, HB3.out.trans (hb4.mono HB3.out.size)⟩
      · have HE := hidS (E3.out HE1.out rfl (by omega))
        clear E1 E2 E3 E4
        have h3' : ¬ (i : Int) = (j : Int) := by omega
        go_wp2_with fail
        go_ret
        exact ⟨ret_bool (by rw [HE.out]; first | rfl | simp), HB3.out⟩
    · have HE := hidS (E2.out HE1.out h2)
      clear E1 E2 E3 E4
      go_wp2_with fail
      go_ret
      exact ⟨ret_bool HE.out.symm, HB3.out⟩
  · have HE := hidS (E1.out h1)
    clear E1 E2 E3 E4
    have h1' : (r.sal == s.sal) = false := by simpa using h1
    go_enter Tryz.func23, Tryz.ntmps23
    go_wp2_with fail
    go_ret
    exact ⟨ret_bool HE.out.symm, HB2.out _ _⟩

theorem bef_noS {rs : List Ru} {x y : In} (h : placedI rs x = false ∨ placedI rs y = false ∨ decide ((chk rs).1 = 0) = false) : bef rs x y = false := by
  unfold bef
  rcases h with h | h | h <;> simp [h]
theorem bef_yesS {rs : List Ru} {x y : In} (h1 : placedI rs x = true) (h2 : placedI rs y = true) (h3 : decide ((chk rs).1 = 0) = true) : bef rs x y = befS rs x y := by
  rw [bef_same]
  unfold bef
  simp only [h1, h2, h3, Bool.true_and]

set_option maxRecDepth 100000 in
set_option maxHeartbeats 3200000 in
theorem sBefore_any (rs : List Ru) (a : Option Addr) (c : Nat) (x y : In) (ax ay : Option Addr) (cx cy : Nat) (w : World) {q q1 q2 : Option Nat} (hv : RusAt q w a rs) (hc : rs.length ≤ c) (hle : ListLe Ru.le 1048576 rs) (ho : ∀ x ∈ rs, OpsOk x.exprs) (hx : IntsAt q1 w ax x.tags) (hy : IntsAt q2 w ay y.tags) (hlx : x.tags.length ≤ 1048576) (hly : y.tags.length ≤ 1048576) :
    Calls Tryz.prog 7 #[.slice a rs.length c, .agg #[.int .i64 x.rule, .slice ax x.tags.length cx], .agg #[.int .i64 y.rule, .slice ay y.tags.length cy]] w fun e w' => e = .returned (.bool (bef rs x y)) ∧ Below w.heap.size w w' := by
  have hl : rs.length ≤ 1048576 := hle.1
  have B2 : ∀ o o', Below w.heap.size w ((w.alloc o).alloc o') := fun o o' => ((Below.refl _ _).alloc (Nat.le_refl _) _).alloc (by simp) _
  have HPX := hidS (fun W => l5There_any rs a c x ax cx W hl hlx)
  have HPY := hidS (fun W => l5There_any rs a c y ay cy W hl hly)
  have HCK := hidS (fun w1 (h1 : Below w.heap.size w w1) => l2Checked_any rs a c w1 (hv.below h1) hc hle ho)
  have HNO := hidS (bef_noS (rs := rs) (x := x) (y := y))
  have HYS := hidS (bef_yesS (rs := rs) (x := x) (y := y))
  have HBF := hidS (fun w1 (h1 : Below w.heap.size w w1) hpx hpy => l5Before_any rs a c x y ax ay cx cy w1 (hv.below h1) (hx.below h1) (hy.below h1) hpx hpy)
  have HB2 := hidS B2
  clear hv hx hy B2
  cases h1 : placedI rs x
  · rw [h1] at HPX
    have HF := hidS (HNO.out (.inl h1))
    go_enter Tryz.func7, Tryz.ntmps7
    go_wp2_with (first | (go_at_call 21; with_reducible refine (HPX.out _).mono ?_; rintro e w1 ⟨rfl, hb1⟩; have x0 := cell_below hb1 (p := ⟨w.heap.size, 0, none⟩) (x := .int .i64 x.rule) (by simp [go_sem]); have x1 := cell_below hb1 (p := ⟨w.heap.size, 1, none⟩) (x := .slice ax x.tags.length cx) (by simp [go_sem]); have y0 := cell_below hb1 (p := ⟨w.heap.size + 1, 0, none⟩) (x := .int .i64 y.rule) (by simp [go_sem]); have y1 := cell_below hb1 (p := ⟨w.heap.size + 1, 1, none⟩) (x := .slice ay y.tags.length cy) (by simp [go_sem])))
    go_ret
    exact ⟨ret_bool HF.out.symm, (HB2.out _ _).trans (hb1.mono (by simp; omega))⟩
  · rw [h1] at HPX
    cases h2 : placedI rs y
    · rw [h2] at HPY
      have HF := hidS (HNO.out (.inr (.inl h2)))
      go_enter Tryz.func7, Tryz.ntmps7
      go_wp2_with (first | (go_at_call 21; with_reducible refine (HPX.out _).mono ?_; rintro e w1 ⟨rfl, hb1⟩; have x0 := cell_below hb1 (p := ⟨w.heap.size, 0, none⟩) (x := .int .i64 x.rule) (by simp [go_sem]); have x1 := cell_below hb1 (p := ⟨w.heap.size, 1, none⟩) (x := .slice ax x.tags.length cx) (by simp [go_sem]); have y0 := cell_below hb1 (p := ⟨w.heap.size + 1, 0, none⟩) (x := .int .i64 y.rule) (by simp [go_sem]); have y1 := cell_below hb1 (p := ⟨w.heap.size + 1, 1, none⟩) (x := .slice ay y.tags.length cy) (by simp [go_sem])) | (go_at_call 21; with_reducible refine (HPY.out _).mono ?_; rintro e w2 ⟨rfl, hb2⟩; have z0 := cell_below hb2 y0; have z1 := cell_below hb2 y1; have z2 := cell_below hb2 x0; have z3 := cell_below hb2 x1; have hB2 : Below w.heap.size w w2 := ((HB2.out _ _).trans (hb1.mono (by simp; omega))).trans (hb2.mono (by have := hb1.size; simp at this; omega))))
      go_ret
      exact ⟨ret_bool HF.out.symm, hB2⟩
    · rw [h2] at HPY
      cases h3 : decide ((chk rs).1 = 0)
      · rw [h3] at HCK
        have HF := hidS (HNO.out (.inr (.inr h3)))
        go_enter Tryz.func7, Tryz.ntmps7
        go_wp2_with (first | (go_at_call 21; with_reducible refine (HPX.out _).mono ?_; rintro e w1 ⟨rfl, hb1⟩; have x0 := cell_below hb1 (p := ⟨w.heap.size, 0, none⟩) (x := .int .i64 x.rule) (by simp [go_sem]); have x1 := cell_below hb1 (p := ⟨w.heap.size, 1, none⟩) (x := .slice ax x.tags.length cx) (by simp [go_sem]); have y0 := cell_below hb1 (p := ⟨w.heap.size + 1, 0, none⟩) (x := .int .i64 y.rule) (by simp [go_sem]); have y1 := cell_below hb1 (p := ⟨w.heap.size + 1, 1, none⟩) (x := .slice ay y.tags.length cy) (by simp [go_sem])) | (go_at_call 21; with_reducible refine (HPY.out _).mono ?_; rintro e w2 ⟨rfl, hb2⟩; have z0 := cell_below hb2 y0; have z1 := cell_below hb2 y1; have z2 := cell_below hb2 x0; have z3 := cell_below hb2 x1; have hB2 : Below w.heap.size w w2 := ((HB2.out _ _).trans (hb1.mono (by simp; omega))).trans (hb2.mono (by have := hb1.size; simp at this; omega))) | (go_at_call 22; with_reducible refine (HCK.out w2 hB2).mono ?_; rintro e w3 ⟨rfl, hb3⟩; have v0 := cell_below hb3 z0; have v1 := cell_below hb3 z1; have v2 := cell_below hb3 z2; have v3 := cell_below hb3 z3; have hB3 : Below w.heap.size w w3 := hB2.trans (hb3.mono hB2.size)))
        go_ret
        exact ⟨ret_bool HF.out.symm, hB3⟩
      · rw [h3] at HCK
        have HF := hidS (HYS.out h1 h2 h3)
        have H1 := hidS h1
        have H2 := hidS h2
        clear h1 h2 h3 HNO
        go_enter Tryz.func7, Tryz.ntmps7
        go_wp2_with (first | (go_at_call 21; with_reducible refine (HPX.out _).mono ?_; rintro e w1 ⟨rfl, hb1⟩; have x0 := cell_below hb1 (p := ⟨w.heap.size, 0, none⟩) (x := .int .i64 x.rule) (by simp [go_sem]); have x1 := cell_below hb1 (p := ⟨w.heap.size, 1, none⟩) (x := .slice ax x.tags.length cx) (by simp [go_sem]); have y0 := cell_below hb1 (p := ⟨w.heap.size + 1, 0, none⟩) (x := .int .i64 y.rule) (by simp [go_sem]); have y1 := cell_below hb1 (p := ⟨w.heap.size + 1, 1, none⟩) (x := .slice ay y.tags.length cy) (by simp [go_sem])) | (go_at_call 21; with_reducible refine (HPY.out _).mono ?_; rintro e w2 ⟨rfl, hb2⟩; have z0 := cell_below hb2 y0; have z1 := cell_below hb2 y1; have z2 := cell_below hb2 x0; have z3 := cell_below hb2 x1; have hB2 : Below w.heap.size w w2 := ((HB2.out _ _).trans (hb1.mono (by simp; omega))).trans (hb2.mono (by have := hb1.size; simp at this; omega))) | (go_at_call 22; with_reducible refine (HCK.out w2 hB2).mono ?_; rintro e w3 ⟨rfl, hb3⟩; have v0 := cell_below hb3 z0; have v1 := cell_below hb3 z1; have v2 := cell_below hb3 z2; have v3 := cell_below hb3 z3; have hB3 : Below w.heap.size w w3 := hB2.trans (hb3.mono hB2.size)) | (go_at_call 23; with_reducible refine (HBF.out w3 hB3 H1.out H2.out).mono ?_; rintro e w4 ⟨rfl, hb4⟩))
        go_ret
        exact ⟨ret_bool HF.out.symm, hB3.trans (hb4.mono hB3.size)⟩
end Go.Proofs.YtajgedhmliekoaaGreat
