/-
  OUR OWN TEXT. A fact that passes an Alpha: the model's side.
-/
import Derived.Test.YtofmgaebgojonaaAp1b
import Derived.Test.YtofmgaebgojonaaAp3
import Derived.Deep.RegionHeld3
import Derived.Deep.DrawnRows
namespace Go.Proofs.Ytofmgaebgojonaa
open Go.RowKit
attribute [local go_sem ↓] Go.wp_at_zero Go.wp_at_succ

set_option maxHeartbeats 3200000 in
theorem sPass_any (x : Al) (a_tests : Option Addr) (c_tests : Nat) (f : F) (a : Option Addr) (c : Nat) {q : Option Nat} (w : World) (ht : TtsAt q w a_tests x.tests) (hv : ValsAt w a f.slots) (hl : x.tests.length ≤ 1048576) :
    Calls Try.prog 47 #[.agg #[.string x.cls, .int .i64 x.arity, .slice a_tests x.tests.length c_tests], .agg #[.int .i64 f.tag, .string f.cls, .slice a f.slots.length c]] w fun e w' =>
      e = .returned (.bool (passes x f)) ∧ Below w.heap.size w w' := by
  have B2 : ∀ o o1, Below w.heap.size w ((w.alloc o).alloc o1) := fun o o1 => ((Below.refl _ _).alloc (Nat.le_refl _) _).alloc (by simp) _
  by_cases hc : f.cls.toList = x.cls.toList
  · by_cases hn : (f.slots.length : Int) = x.arity
    · have HG0 : Hid (passes x f = x.tests.all (fun t => tHolds t f.slots)) := passes_all hc hn
      have hn' : ((f.slots.length : Int) != x.arity) = false := by simp [hn]
      go_enter Try.func47, Try.ntmps47
      go_wp2
      clear hc hn hn'
      go_loopw [24] (fun i wr => ∃ (k : Nat), k ≤ x.tests.length ∧ i = .int .i64 k ∧ passes x f = (x.tests.drop k).all (fun t => tHolds t f.slots) ∧ FcBox wr (w.heap.size + 1) f a c ∧ Below w.heap.size w wr) (fun i _ => x.tests.length - (intOf i).toNat)
      case atStart => exact ⟨0, by omega, rfl, HG0.out, by refine ⟨?_, ?_, ?_⟩ <;> simp [go_sem], B2 _ _⟩
      case round =>
        obtain ⟨k, hk, rfl, hG, hbox, hb⟩ := hrel
        have HG := hidA hG
        have HBX := hidA hbox
        clear hG
        by_cases hkl : k < x.tests.length
        · obtain ⟨t, htk⟩ : ∃ t, x.tests[k]? = some t := ⟨x.tests[k], by simp [hkl]⟩
          obtain ⟨b, o, rfl, hq, c0, c1, c2, c3, c4, c5⟩ := (ht.below hb).get htk
          have HD : Hid (x.tests.drop k = t :: x.tests.drop (k + 1)) := drop_cons htk
          have B1 : ∀ o, Below wr.heap.size wr (wr.alloc o) := fun o => (Below.refl _ _).alloc (Nat.le_refl _) _
          have BB : ∀ o o1, Below wr.heap.size wr ((wr.alloc o).alloc o1) := fun o o1 => (B1 o).alloc (by simp) _
          have q2 : ∀ o, (wr.alloc o).cell? ⟨w.heap.size + 1, 2, none⟩ = _ := fun o => cell_below (B1 o) hbox.2.2
          have q2' : ∀ o o1, ((wr.alloc o).alloc o1).cell? ⟨w.heap.size + 1, 2, none⟩ = _ := fun o o1 => cell_below (BB o o1) hbox.2.2
          clear hbox
          by_cases g1 : t.slot < 0
          · have HT : Hid (tHolds t f.slots = false) := show tHolds t f.slots = false from by simp [tHolds, getI, show ¬ (0 : Int) ≤ t.slot by omega]
            go_wp2
            go_ret
            exact ⟨ret_bool (by rw [HG.out, HD.out, List.all_cons, HT.out]; rfl), hb.trans ((B1 _).mono hb.size)⟩
          by_cases g2 : (f.slots.length : Int) ≤ t.slot
          · have HT : Hid (tHolds t f.slots = false) := show tHolds t f.slots = false from by simp [tHolds, getI_out (vs := f.slots) (i := t.slot) (by simp [inR]; omega)]
            go_wp2
            go_ret
            exact ⟨ret_bool (by rw [HG.out, HD.out, List.all_cons, HT.out]; rfl), hb.trans ((B1 _).mono hb.size)⟩
          obtain ⟨s, v, es, hsl, hvs, hg⟩ := getI_in (vs := f.slots) (i := t.slot) (by simp [inR]; omega)
          by_cases g3 : t.other < -1
          · have HT : Hid (tHolds t f.slots = false) := show tHolds t f.slots = false from by simp [tHolds, hg, show ¬ t.other = -1 by omega, getI_out (vs := f.slots) (i := t.other) (by simp [inR]; omega)]
            go_wp2
            go_ret
            exact ⟨ret_bool (by rw [HG.out, HD.out, List.all_cons, HT.out]; rfl), hb.trans ((B1 _).mono hb.size)⟩
          by_cases g4 : (f.slots.length : Int) ≤ t.other
          · have HT : Hid (tHolds t f.slots = false) := show tHolds t f.slots = false from by simp [tHolds, hg, show ¬ t.other = -1 by omega, getI_out (vs := f.slots) (i := t.other) (by simp [inR]; omega)]
            go_wp2
            go_ret
            exact ⟨ret_bool (by rw [HG.out, HD.out, List.all_cons, HT.out]; rfl), hb.trans ((B1 _).mono hb.size)⟩
          obtain ⟨bv, ov, rfl, x0, x1, x2⟩ := (hv.below hb) s v hvs
          have y0 : ∀ o o1, ((wr.alloc o).alloc o1).cell? ⟨bv, ov + s * 3, none⟩ = _ := fun o o1 => cell_below (BB o o1) x0
          have y1 : ∀ o o1, ((wr.alloc o).alloc o1).cell? ⟨bv, ov + s * 3 + 1, none⟩ = _ := fun o o1 => cell_below (BB o o1) x1
          have y2 : ∀ o o1, ((wr.alloc o).alloc o1).cell? ⟨bv, ov + s * 3 + 2, none⟩ = _ := fun o o1 => cell_below (BB o o1) x2
          have z0 : (0 : Int) ≤ (s : Int) := by omega
          have z1 : (s : Int) < (f.slots.length : Int) := by omega
          have z2 : ¬ (s : Int) < 0 := by omega
          have z3 : ¬ (f.slots.length : Int) ≤ (s : Int) := by omega
          by_cases g5 : t.other = -1
          · have HT : Hid (tHolds t f.slots = meets t.op v t.val) := show tHolds t f.slots = _ from by simp [tHolds, hg, g5]
            have hT := hidA (fun w' => l3Holds_any v t.val t.op w')
            rw [es] at c0
            rw [g5] at c2
            clear g1 g2 g3 g4 g5 es hg hvs x0 x1 x2 hsl
            cases hm : meets t.op v t.val
            all_goals
              rw [hm] at hT HT
              go_wp2
              first
              | (go_region_held3 (fun w' => w'.cell? ⟨wr.heap.size, 0, none⟩ = some (.int .i64 (s : Int)) ∧ w'.cell? ⟨wr.heap.size, 1, none⟩ = some (.int .i64 t.op) ∧ w'.cell? ⟨w.heap.size + 1, 2, none⟩ = some (.slice (some ⟨bv, ov, none⟩) f.slots.length c) ∧ w'.cell? ⟨bv, ov + s * 3, none⟩ = some (.int .i64 v.kind) ∧ w'.cell? ⟨bv, ov + s * 3 + 1, none⟩ = some (.int .i64 v.num) ∧ w'.cell? ⟨bv, ov + s * 3 + 2, none⟩ = some (.string v.sym) ∧ w'.cell? ⟨wr.heap.size + 1, 0, none⟩ = some (.int .i64 t.val.kind) ∧ w'.cell? ⟨wr.heap.size + 1, 1, none⟩ = some (.int .i64 t.val.num) ∧ w'.cell? ⟨wr.heap.size + 1, 2, none⟩ = some (.string t.val.sym)) ((go_split_ands; refine ⟨?_, ?_, ?_, ?_, ?_, ?_, ?_, ?_, ?_⟩ <;> first | (simp [go_sem, *]; done) | exact cell_below hb' (by assumption))) (first | (go_at_call 101; refine (hT.out _).mono ?_; rintro e w' ⟨rfl, hb'⟩) | fail))
              | fail
              go_wp2
            · go_ret
              exact ⟨ret_bool (by rw [HG.out, HD.out, List.all_cons, HT.out]; rfl), hb.trans (((BB _ _).drew.trans (hb'.mono (by simp; omega))).mono hb.size)⟩
            · go_roundw
              case rel => exact ⟨k + 1, by omega, by go_num, by rw [HG.out, HD.out, List.all_cons, HT.out]; rfl, HBX.out.below ((BB _ _).drew.trans (hb'.mono (by simp; omega))), hb.trans (((BB _ _).drew.trans (hb'.mono (by simp; omega))).mono hb.size)⟩
              case measure => simp [intOf]; omega
          · obtain ⟨r, u, er, hrl, hvr, hgr⟩ := getI_in (vs := f.slots) (i := t.other) (by simp [inR]; omega)
            obtain ⟨b3, o3, e3, v0, v1, v2⟩ := (hv.below hb) r u hvr
            cases e3
            have HT : Hid (tHolds t f.slots = meets t.op v u) := show tHolds t f.slots = _ from by simp [tHolds, hg, g5, hgr]
            have hT := hidA (fun w' => l3Holds_any v u t.op w')
            have m0 : ∀ o o1, ((wr.alloc o).alloc o1).cell? ⟨bv, ov + r * 3, none⟩ = _ := fun o o1 => cell_below (BB o o1) v0
            have m1 : ∀ o o1, ((wr.alloc o).alloc o1).cell? ⟨bv, ov + r * 3 + 1, none⟩ = _ := fun o o1 => cell_below (BB o o1) v1
            have m2 : ∀ o o1, ((wr.alloc o).alloc o1).cell? ⟨bv, ov + r * 3 + 2, none⟩ = _ := fun o o1 => cell_below (BB o o1) v2
            have n0 : (0 : Int) ≤ (r : Int) := by omega
            have n1 : (r : Int) < (f.slots.length : Int) := by omega
            have n2 : ¬ (r : Int) < -1 := by omega
            have n3 : ¬ (f.slots.length : Int) ≤ (r : Int) := by omega
            rw [es] at c0
            rw [er] at c2
            clear g1 g2 g3 g4 g5 es hg hvs x0 x1 x2 hsl er hrl hvr hgr v0 v1 v2
            cases hm : meets t.op v u
            all_goals
              rw [hm] at hT HT
              go_wp2
              first
              | (go_region_held3 (fun w' => w'.cell? ⟨wr.heap.size, 0, none⟩ = some (.int .i64 (s : Int)) ∧ w'.cell? ⟨wr.heap.size, 1, none⟩ = some (.int .i64 t.op) ∧ w'.cell? ⟨w.heap.size + 1, 2, none⟩ = some (.slice (some ⟨bv, ov, none⟩) f.slots.length c) ∧ w'.cell? ⟨bv, ov + s * 3, none⟩ = some (.int .i64 v.kind) ∧ w'.cell? ⟨bv, ov + s * 3 + 1, none⟩ = some (.int .i64 v.num) ∧ w'.cell? ⟨bv, ov + s * 3 + 2, none⟩ = some (.string v.sym) ∧ w'.cell? ⟨wr.heap.size + 1, 0, none⟩ = some (.int .i64 u.kind) ∧ w'.cell? ⟨wr.heap.size + 1, 1, none⟩ = some (.int .i64 u.num) ∧ w'.cell? ⟨wr.heap.size + 1, 2, none⟩ = some (.string u.sym)) ((go_split_ands; refine ⟨?_, ?_, ?_, ?_, ?_, ?_, ?_, ?_, ?_⟩ <;> first | (simp [go_sem, *]; done) | exact cell_below hb' (by assumption))) (first | (go_at_call 101; refine (hT.out _).mono ?_; rintro e w' ⟨rfl, hb'⟩) | fail))
              | fail
              go_wp2
            · go_ret
              exact ⟨ret_bool (by rw [HG.out, HD.out, List.all_cons, HT.out]; rfl), hb.trans (((BB _ _).drew.trans (hb'.mono (by simp; omega))).mono hb.size)⟩
            · go_roundw
              case rel => exact ⟨k + 1, by omega, by go_num, by rw [HG.out, HD.out, List.all_cons, HT.out]; rfl, HBX.out.below ((BB _ _).drew.trans (hb'.mono (by simp; omega))), hb.trans (((BB _ _).drew.trans (hb'.mono (by simp; omega))).mono hb.size)⟩
              case measure => simp [intOf]; omega
        · go_wp2
          go_ret
          exact ⟨ret_bool (by rw [HG.out, List.drop_eq_nil_of_le (by omega)]; rfl), hb⟩
    · have HN : Hid (passes x f = false) := passes_len hn
      have hn' : ((f.slots.length : Int) != x.arity) = true := by simp [hn]
      go_enter Try.func47, Try.ntmps47
      go_wp2
      go_ret
      exact ⟨ret_bool HN.out.symm, B2 _ _⟩
  · have HN : Hid (passes x f = false) := passes_cls hc
    go_enter Try.func47, Try.ntmps47
    go_wp2
    go_ret
    exact ⟨ret_bool HN.out.symm, B2 _ _⟩
end Go.Proofs.Ytofmgaebgojonaa
