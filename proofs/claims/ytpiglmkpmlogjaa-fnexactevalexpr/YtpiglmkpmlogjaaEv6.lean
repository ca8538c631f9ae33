/-
  OUR OWN TEXT. EvalExpr: the program's side: one expr over those ahead of it; exprs that can be evaluated.
-/
import Derived.Test.YtpiglmkpmlogjaaEv5
namespace Go.Proofs.Ytpiglmkpmlogjaa
open Go.RowKit
attribute [local go_sem ↓] Go.wp_at_zero Go.wp_at_succ

/-- Operators are bytes. -/
def OpsOkE (es : List Ex) : Prop := ∀ e ∈ es, 0 ≤ e.op ∧ e.op < 256
theorem operate_any (e : Ex) (x y : Ev) (w : World) (ho : isAr e.op = true) (hx : fits x.val.num = true) (hy : fits y.val.num = true) :
    Calls Try.prog 187 #[exV e, evV x, evV y] w fun r w' => r = .returned (evV (evOp e.op x y)) ∧ Below w.heap.size w w' := by
  by_cases h1 : x.code = 0
  · by_cases h2 : y.code = 0
    · by_cases h3 : x.val.kind = 0
      · by_cases h4 : y.val.kind = 0
        · simp only [isAr, Bool.or_eq_true, beq_iff_eq] at ho
          rcases ho with ho | ho | ho | ho | ho
          · exact operate_43 e x y w ho h1 h2 h3 h4 hx hy
          · exact operate_45 e x y w ho h1 h2 h3 h4 hx hy
          · exact operate_42 e x y w ho h1 h2 h3 h4 hx hy
          · exact operate_47 e x y w ho h1 h2 h3 h4 hx hy
          · exact operate_37 e x y w ho h1 h2 h3 h4 hx hy
        · exact operate_1 e x y w (.inr (.inr (.inr ⟨h1, h2, h3, h4⟩)))
      · exact operate_1 e x y w (.inr (.inr (.inl ⟨h1, h2, h3⟩)))
    · exact operate_1 e x y w (.inr (.inl ⟨h1, h2⟩))
  · exact operate_1 e x y w (.inl h1)

theorem ev1_0 {bs : List Bd} {tab : List Ev} {e : Ex} (h : e.kind = 0) : ev1 bs tab e = ⟨0, e.val⟩ := by unfold ev1; rw [if_pos h]
theorem ev1_1 {bs : List Bd} {tab : List Ev} {e : Ex} (h : e.kind = 1) : ev1 bs tab e = evVar bs e.var := by unfold ev1; rw [if_neg (by omega), if_pos h]
theorem ev1_2 {bs : List Bd} {tab : List Ev} {e : Ex} (h : e.kind = 2) : ev1 bs tab e = evOp e.op (tab.getD e.a.toNat zEv) (tab.getD e.b.toNat zEv) := by unfold ev1; rw [if_neg (by omega), if_neg (by omega)]
theorem B2e (w : World) (o1 o2 : Obj) : Below w.heap.size w ((w.alloc o1).alloc o2) := ((Below.refl _ _).alloc (Nat.le_refl _) _).alloc (by simp) _
theorem Bx4.made2 (w : World) (o1 : Obj) (t : TypeId) (x0 x1 x2 x3 : Value) : Bx4 ((w.alloc o1).alloc (.cells #[x0, x1, x2, x3] t)) (w.heap.size + 1) t x0 x1 x2 x3 := by
  have := heap_alloc_new (w.alloc o1) (.cells #[x0, x1, x2, x3] t)
  unfold Bx4
  simpa using this

theorem cell_set4 {w : World} {b g o : Nat} {v x0 x1 x2 x3 : Value} (h : w.cell? ⟨b, o, none⟩ = some v) (hne : b ≠ g) : ((((w.setCell ⟨g, 0, none⟩ x0).setCell ⟨g, 1, none⟩ x1).setCell ⟨g, 2, none⟩ x2).setCell ⟨g, 3, none⟩ x3).cell? ⟨b, o, none⟩ = some v := by
  have n : ∀ k, (⟨g, k, none⟩ : Addr) ≠ ⟨b, o, none⟩ := fun k e => hne (by injection e with e; exact e.symm)
  rw [World.cell?_setCell_other _ _ _ _ (n 3), World.cell?_setCell_other _ _ _ _ (n 2), World.cell?_setCell_other _ _ _ _ (n 1), World.cell?_setCell_other _ _ _ _ (n 0)]
  exact h

set_option maxHeartbeats 1600000 in
theorem eval_0 (e : Ex) (a : Option Addr) (n c : Nat) (bs : List Bd) (tab : List Ev) (at' : Option Addr) (ct : Nat) (w : World) (hk : e.kind = 0) :
    Calls Try.prog 142 #[exV e, .slice a n c, .slice at' tab.length ct] w fun r w' => r = .returned (evV (ev1 bs tab e)) ∧ Below w.heap.size w w' := by
  have HN := hidE (ev1_0 (bs := bs) (tab := tab) hk)
  generalize ev1 bs tab e = E at HN ⊢
  unfold exV
  rw [hk]
  go_enter Try.func142, Try.ntmps142
  go_wp2
  refine bodyPost_ret (v := evV ⟨0, e.val⟩) (by simp [results, Try.results142, go_sem, evV]) rfl ⟨by rw [HN.out], ?_⟩
  exact B2e w _ _
set_option maxHeartbeats 1600000 in
theorem eval_1 (e : Ex) (a : Option Addr) (c : Nat) (bs : List Bd) (tab : List Ev) (at' : Option Addr) (ct : Nat) {q : Option Nat} (w : World) (hv : BdsAt q w a bs) (hl : bs.length ≤ 1048576) (hk : e.kind = 1) :
    Calls Try.prog 142 #[exV e, .slice a bs.length c, .slice at' tab.length ct] w fun r w' => r = .returned (evV (ev1 bs tab e)) ∧ Below w.heap.size w w' := by
  have HN := hidE (ev1_1 (bs := bs) (tab := tab) hk)
  have HV := hidE (fun o1 o2 => valueOf_any e.var a c bs ((w.alloc o1).alloc o2) (hv.below (B2e w o1 o2)) hl)
  generalize ev1 bs tab e = E at HN ⊢
  generalize evVar bs e.var = F at HN HV
  have HB := hidE (B2e w)
  have HX := hidE (fun o1 => Bx4.made2 w o1 122 (.int .i64 0) (.int .i64 0) (.int .i64 0) (.string ⟨#[]⟩))
  unfold exV
  rw [hk]
  unfold evV at HV
  clear hv hk
  go_enter Try.func142, Try.ntmps142
  go_wp2_with (go_at_call 186; with_reducible refine (HV.out _ _).mono ?_; rintro r w1 ⟨rfl, hb1⟩; have hBW := (HB.out _ _).trans (hb1.mono (HB.out _ _).size); obtain ⟨⟨f0, f1, f2, f3⟩, ⟨z0, z1, z2, z3⟩, hlt⟩ := ((HX.out _).bel hb1).facts)
  refine bodyPost_ret (v := evV F) (by simp [results, Try.results142, go_sem, f0, f1, f2, f3, evV]) rfl ⟨by rw [HN.out], ?_⟩
  exact (((hBW.setCell (by simp) _).setCell (by simp) _).setCell (by simp) _).setCell (by simp) _
set_option maxHeartbeats 1600000 in
theorem eval_2 (e : Ex) (a : Option Addr) (n c : Nat) (bs : List Bd) (tab : List Ev) (at' : Option Addr) (ct : Nat) {q : Option Nat} (w : World) (ht : EvsAt q w at' tab) (hk : e.kind = 2) (ho : isAr e.op = true) (ia ib : Nat) (ea : e.a = (ia : Int)) (eb : e.b = (ib : Int)) (x y : Ev) (hx : tab[ia]? = some x) (hy : tab[ib]? = some y) (fx : fits x.val.num = true) (fy : fits y.val.num = true) (_hl : tab.length ≤ 60) :
    Calls Try.prog 142 #[exV e, .slice a n c, .slice at' tab.length ct] w fun r w' => r = .returned (evV (ev1 bs tab e)) ∧ Below w.heap.size w w' := by
  have hia : ia < tab.length := (List.getElem?_eq_some_iff.1 hx).1
  have hib : ib < tab.length := (List.getElem?_eq_some_iff.1 hy).1
  have HN := hidE (ev1_2 (bs := bs) (tab := tab) hk)
  rw [ea, eb, Int.toNat_natCast, Int.toNat_natCast, show tab.getD ia zEv = x from by simp [List.getD, hx], show tab.getD ib zEv = y from by simp [List.getD, hy]] at HN
  obtain ⟨b, o, rfl, _, c0, c1, c2, c3⟩ := ht.get hx
  obtain ⟨b', o', e', _, d0, d1, d2, d3⟩ := ht.get hy
  simp only [Option.some.injEq, Addr.mk.injEq, and_true] at e'
  obtain ⟨rfl, rfl⟩ := e'
  have HO := hidE (fun w' => operate_any e x y w' ho fx fy)
  have hbl : b < w.heap.size := World.block_lt_of_cell? w ⟨b, _, none⟩ c0
  generalize ev1 bs tab e = E at HN ⊢
  generalize evOp e.op x y = F at HN HO
  have HB := hidE (B2e w)
  have HX := hidE (fun o1 => Bx4.made2 w o1 122 (.int .i64 0) (.int .i64 0) (.int .i64 0) (.string ⟨#[]⟩))
  unfold exV at HO ⊢
  rw [hk, ea, eb] at HO ⊢
  unfold evV at HO
  have i1 : (ia : Int) < (tab.length : Int) := by omega
  have i2 : (ib : Int) < (tab.length : Int) := by omega
  have hn1 : b ≠ w.heap.size + 1 := by omega
  have hn2 : w.heap.size ≠ w.heap.size + 1 := by omega
  clear ht hk hx hy ho
  go_enter Try.func142, Try.ntmps142
  go_wp2_with fail
  go_region_held3 (fun w' => w'.cell? ⟨w.heap.size, 0, none⟩ = some (.int .i64 2) ∧ w'.cell? ⟨w.heap.size, 1, none⟩ = some (.int .u8 e.op) ∧ w'.cell? ⟨w.heap.size, 2, none⟩ = some (.string e.var) ∧ w'.cell? ⟨w.heap.size, 3, none⟩ = some (.int .i64 e.val.kind) ∧ w'.cell? ⟨w.heap.size, 4, none⟩ = some (.int .i64 e.val.num) ∧ w'.cell? ⟨w.heap.size, 5, none⟩ = some (.string e.val.sym) ∧ w'.cell? ⟨w.heap.size, 6, none⟩ = some (.int .i64 (ia : Int)) ∧ w'.cell? ⟨w.heap.size, 7, none⟩ = some (.int .i64 (ib : Int)) ∧ w'.cell? ⟨b, o + ia * 4, none⟩ = some (.int .i64 x.code) ∧ w'.cell? ⟨b, o + ia * 4 + 1, none⟩ = some (.int .i64 x.val.kind) ∧ w'.cell? ⟨b, o + ia * 4 + 2, none⟩ = some (.int .i64 x.val.num) ∧ w'.cell? ⟨b, o + ia * 4 + 3, none⟩ = some (.string x.val.sym) ∧ w'.cell? ⟨b, o + ib * 4, none⟩ = some (.int .i64 y.code) ∧ w'.cell? ⟨b, o + ib * 4 + 1, none⟩ = some (.int .i64 y.val.kind) ∧ w'.cell? ⟨b, o + ib * 4 + 2, none⟩ = some (.int .i64 y.val.num) ∧ w'.cell? ⟨b, o + ib * 4 + 3, none⟩ = some (.string y.val.sym))
    (first | (go_split_ands; (refine ⟨?_, ?_, ?_, ?_, ?_, ?_, ?_, ?_, ?_, ?_, ?_, ?_, ?_, ?_, ?_, ?_⟩ <;> first | with_reducible assumption | with_reducible exact cell_below hb1 (by assumption) | with_reducible exact cell_set4 (by assumption) hn1 | with_reducible exact cell_set4 (by assumption) hn2 | with_reducible exact cell_below (HB.out _ _).drew (by assumption) | (simp [go_sem]; done)); done) | fail)
    (first | (go_at_call 187; with_reducible refine (HO.out _).mono ?_; rintro r w1 ⟨rfl, hb1⟩; have hBW := (HB.out _ _).drew.trans (hb1.mono (HB.out _ _).drew.size); have HBW := hidE hBW; obtain ⟨⟨f0, f1, f2, f3⟩, ⟨z0, z1, z2, z3⟩, hlt⟩ := (((HX.out _).bel (Below.refl _ _).drew).bel hb1).facts; clear hBW) | fail)
  clear HO HX HB hb1 c0 c1 c2 c3 d0 d1 d2 d3
  go_wp2_with fail
  refine bodyPost_ret (v := evV F) (by simp [results, Try.results142, go_sem, f0, f1, f2, f3, evV]) rfl ⟨by rw [HN.out], ?_⟩
  exact (((HBW.out.setCell (by simp) _).setCell (by simp) _).setCell (by simp) _).setCell (by simp) _

/-- What is asked of a table of values: numbers that fit. -/
def Fits (tab : List Ev) : Prop := ∀ x ∈ tab, fits x.val.num = true
theorem eval_any (e : Ex) (a : Option Addr) (c : Nat) (bs : List Bd) (tab : List Ev) (at' : Option Addr) (ct : Nat) {q q' : Option Nat} (w : World) (hv : BdsAt q w a bs) (hl : bs.length ≤ 1048576) (ht : EvsAt q' w at' tab) (hf : Fits tab) (hl2 : tab.length ≤ 60) (hs : soundE tab.length e = true) :
    Calls Try.prog 142 #[exV e, .slice a bs.length c, .slice at' tab.length ct] w fun r w' => r = .returned (evV (ev1 bs tab e)) ∧ Below w.heap.size w w' := by
  unfold soundE at hs
  simp only [Bool.or_eq_true, Bool.and_eq_true, beq_iff_eq, decide_eq_true_eq] at hs
  rcases hs with (h | h) | ⟨⟨⟨⟨⟨h, h1⟩, h2⟩, h3⟩, h4⟩, h5⟩
  · exact eval_0 e a bs.length c bs tab at' ct w h
  · exact eval_1 e a c bs tab at' ct w hv hl h
  · obtain ⟨ia, ea⟩ := Int.eq_ofNat_of_zero_le h2
    obtain ⟨ib, eb⟩ := Int.eq_ofNat_of_zero_le h4
    have hia : ia < tab.length := by omega
    have hib : ib < tab.length := by omega
    exact eval_2 e a bs.length c bs tab at' ct w ht h h1 ia ib ea eb _ _ (List.getElem?_eq_getElem hia) (List.getElem?_eq_getElem hib) (hf _ (List.getElem_mem hia)) (hf _ (List.getElem_mem hib)) hl2

theorem soundGo_cons (e : Ex) (r : List Ex) (k : Nat) : soundGo (e :: r) k = (soundE k e && soundGo r (k + 1)) := rfl
set_option maxHeartbeats 1600000 in
theorem sound_any (a : Option Addr) (c : Nat) (es : List Ex) {q : Option Nat} (w : World) (hv : ExsAt q w a es) (hl : es.length ≤ 1048576) (ho : OpsOkE es) :
    Calls Try.prog 141 #[.slice a es.length c] w fun r w' => r = .returned (.bool (soundGo es 0)) ∧ Below w.heap.size w w' := by
  go_enter Try.func141, Try.ntmps141
  go_wp2
  go_loopw [7] (fun i wr => ∃ (k : Nat), k ≤ es.length ∧ i = .int .i64 k ∧ soundGo es 0 = soundGo (es.drop k) k ∧ Below w.heap.size w wr) (fun i _ => es.length - (intOf i).toNat)
  case atStart => exact ⟨0, by omega, rfl, rfl, Below.refl _ _⟩
  case round =>
    obtain ⟨k, hk, rfl, hG, hb⟩ := hrel
    have HG := hidE hG
    clear hG
    by_cases hkl : k < es.length
    · obtain ⟨e, hek⟩ : ∃ e, es[k]? = some e := ⟨es[k], by simp [hkl]⟩
      obtain ⟨b, o, rfl, hq, c0, c1, c2, c3, c4, c5, c6, c7⟩ := (hv.below hb).get hek
      have HD : Hid (es.drop k = e :: es.drop (k + 1)) := drop_cons hek
      obtain ⟨o0, o1⟩ := ho e (List.mem_of_getElem? hek)
      have B1 : ∀ o, Below w.heap.size w (wr.alloc o) := fun o => hb.alloc hb.size _
      have HS : Hid (soundGo es 0 = (soundE k e && soundGo (es.drop (k + 1)) (k + 1))) := show soundGo es 0 = _ from by rw [HG.out, HD.out, soundGo_cons]
      have HI := hidE (fun w' => isArith_any e.op o0 o1 w')
      by_cases k0 : e.kind = 0
      · have HE : Hid (soundE k e = true) := show soundE k e = true from by simp [soundE, k0]
        rw [k0] at c0
        go_wp2
        go_roundw
        case rel => exact ⟨k + 1, by omega, by go_num, by rw [HS.out, HE.out]; rfl, B1 _⟩
        case measure => simp [intOf]; omega
      · by_cases k1 : e.kind = 1
        · have HE : Hid (soundE k e = true) := show soundE k e = true from by simp [soundE, k1]
          rw [k1] at c0
          clear k0
          go_wp2
          go_roundw
          case rel => exact ⟨k + 1, by omega, by go_num, by rw [HS.out, HE.out]; rfl, B1 _⟩
          case measure => simp [intOf]; omega
        · by_cases k2 : e.kind = 2
          · have HE : Hid (soundE k e = (isAr e.op && decide (0 ≤ e.a) && decide (e.a < (k : Int)) && decide (0 ≤ e.b) && decide (e.b < (k : Int)))) := show soundE k e = _ from by simp [soundE, k2]
            rw [k2] at c0
            clear k0 k1
            generalize soundE k e = SE at HS HE
            cases hi : isAr e.op
            · rw [hi] at HI HE
              go_wp2_with (go_at_call 185; refine (HI.out _).mono ?_; rintro r w1 ⟨rfl, rfl⟩)
              go_ret
              exact ⟨ret_bool (by rw [HS.out, HE.out]; rfl), B1 _⟩
            · rw [hi] at HI HE
              by_cases a0 : e.a < 0
              · have HE2 : Hid (SE = false) := show SE = false from by rw [HE.out]; simp [show ¬ (0 ≤ e.a) by omega]
                go_wp2_with (go_at_call 185; refine (HI.out _).mono ?_; rintro r w1 ⟨rfl, rfl⟩)
                go_ret
                exact ⟨ret_bool (by rw [HS.out, HE2.out]; rfl), B1 _⟩
              · by_cases a1 : (k : Int) ≤ e.a
                · have HE2 : Hid (SE = false) := show SE = false from by rw [HE.out]; simp [show ¬ (e.a < (k : Int)) by omega]
                  go_wp2_with (go_at_call 185; refine (HI.out _).mono ?_; rintro r w1 ⟨rfl, rfl⟩)
                  go_ret
                  exact ⟨ret_bool (by rw [HS.out, HE2.out]; rfl), B1 _⟩
                · by_cases b0 : e.b < 0
                  · have HE2 : Hid (SE = false) := show SE = false from by rw [HE.out]; simp [show ¬ (0 ≤ e.b) by omega]
                    go_wp2_with (go_at_call 185; refine (HI.out _).mono ?_; rintro r w1 ⟨rfl, rfl⟩)
                    go_ret
                    exact ⟨ret_bool (by rw [HS.out, HE2.out]; rfl), B1 _⟩
                  · by_cases b1 : (k : Int) ≤ e.b
                    · have HE2 : Hid (SE = false) := show SE = false from by rw [HE.out]; simp [show ¬ (e.b < (k : Int)) by omega]
                      go_wp2_with (go_at_call 185; refine (HI.out _).mono ?_; rintro r w1 ⟨rfl, rfl⟩)
                      go_ret
                      exact ⟨ret_bool (by rw [HS.out, HE2.out]; rfl), B1 _⟩
                    · have HE2 : Hid (SE = true) := show SE = true from by rw [HE.out]; simp [show 0 ≤ e.a by omega, show 0 ≤ e.b by omega, show e.a < (k : Int) by omega, show e.b < (k : Int) by omega]
                      go_wp2_with (go_at_call 185; refine (HI.out _).mono ?_; rintro r w1 ⟨rfl, rfl⟩)
                      go_roundw
                      case rel => exact ⟨k + 1, by omega, by go_num, by rw [HS.out, HE2.out]; rfl, B1 _⟩
                      case measure => simp [intOf]; omega
          · have HE : Hid (soundE k e = false) := show soundE k e = false from by simp [soundE, k0, k1, k2]
            go_wp2
            go_ret
            exact ⟨ret_bool (by rw [HS.out, HE.out]; rfl), B1 _⟩
    · go_wp2
      go_ret
      exact ⟨ret_bool (by rw [HG.out, List.drop_eq_nil_of_le (by omega)]; rfl), hb⟩
end Go.Proofs.Ytpiglmkpmlogjaa
