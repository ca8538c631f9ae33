/-
  OUR OWN TEXT. To0, ToR, one behind the other.
-/
import Derived.Test.YtfgpcjdjbbhdmaaGreatDoorZa
import Derived.Test.YtfgpcjdjbbhdmaaGreatDoorZc
namespace Go.Proofs.YtfgpcjdjbbhdmaaGreatDoor
open Go.RowKit

theorem infoV : (Tryz.prog.info? 88).map (fun i => (i.zero, i.size, i.bytes)) = some (some (.agg #[.int .i64 0, .int .i64 0, .string ByteArray.empty]), 3, 32) := by kernel_rfl

/-- 'make([]T, n)', the elements structs of some cells. -/
theorem run_make_agg {P : Program} (t e : TypeId) (z : Array Value) (size bytes : Nat) (ht : P.underlying t = some (.slice e)) (hinfo : (P.info? e).map (fun i => (i.zero, i.size, i.bytes)) = some (some (.agg z), size, bytes))
    (n : Nat) (hb : bytes * n ≤ 281474976710656) (h63 : n ≤ 9223372036854775807) (w : World) :
    (Instr.makeSlice t (.int .i64 (n : Int)) (.int .i64 (n : Int))).run P w = .ok (.slice (some ⟨w.heap.size, 0, none⟩) n n) (w.alloc (.cells (madeCells z (n * size)) e)) := by
  obtain ⟨i, hi, hz0, hz1, hz2⟩ := info_parts hinfo
  have hb' : (i.bytes : Int) * (n : Int) ≤ 281474976710656 := by
    rw [hz2]
    have h : ((bytes * n : Nat) : Int) ≤ 281474976710656 := by omega
    rwa [Int.natCast_mul] at h
  have hr := run_make (P := P) w t e i _ ht hi hz0 .i64 .i64 n n (by omega) (Int.le_refl _) hb' (by omega)
  simp only [Int.toNat_natCast, hz1, Value.cells] at hr
  exact hr

set_option maxHeartbeats 400000 in
theorem toValue_any (v : V) (w : World) :
    Calls Tryz.prog 170 #[.agg #[.int .i64 v.kind, .int .i64 v.num, .string v.sym]] w fun e w' =>
      e = .returned (.agg #[.int .i64 v.kind, .int .i64 v.num, .string v.sym]) ∧ Below w.heap.size w w' := by
  go_enter Tryz.func170, Tryz.ntmps170
  go_wp2
  exact bodyPost_ret (v := .agg #[.int .i64 v.kind, .int .i64 v.num, .string v.sym]) (by simp [results, Tryz.results170, go_sem]) rfl ⟨rfl, (((Below.refl _ _).alloc (Nat.le_refl _) _).alloc (by simp) _).alloc (by simp; omega) _⟩
end Go.Proofs.YtfgpcjdjbbhdmaaGreatDoor

namespace Go.Proofs.YtfgpcjdjbbhdmaaGreatDoor
open Go.RowKit

theorem frozen_below {w w' : World} {g i : Nat} (hb : Below w.heap.size w w') (hg : g < w.heap.size) (h : w.frozen? ⟨g, i, none⟩ = false) : w'.frozen? ⟨g, i, none⟩ = false := by
  rw [(bcell hb).2 g i hg]
  exact h
theorem setCells3 (w : World) (g o : Nat) (x0 x1 x2 : Value) : w.setCells g o [x0, x1, x2] = ((w.setCell ⟨g, o, none⟩ x0).setCell ⟨g, o + 1, none⟩ x1).setCell ⟨g, o + 2, none⟩ x2 := rfl
theorem setCells4 (w : World) (g o : Nat) (x0 x1 x2 x3 : Value) : w.setCells g o [x0, x1, x2, x3] = (((w.setCell ⟨g, o, none⟩ x0).setCell ⟨g, o + 1, none⟩ x1).setCell ⟨g, o + 2, none⟩ x2).setCell ⟨g, o + 3, none⟩ x3 := rfl
theorem setCells5 (w : World) (g o : Nat) (x0 x1 x2 x3 x4 : Value) : w.setCells g o [x0, x1, x2, x3, x4] = ((((w.setCell ⟨g, o, none⟩ x0).setCell ⟨g, o + 1, none⟩ x1).setCell ⟨g, o + 2, none⟩ x2).setCell ⟨g, o + 3, none⟩ x3).setCell ⟨g, o + 4, none⟩ x4 := rfl
theorem setCells6 (w : World) (g o : Nat) (x0 x1 x2 x3 x4 x5 : Value) : w.setCells g o [x0, x1, x2, x3, x4, x5] = (((((w.setCell ⟨g, o, none⟩ x0).setCell ⟨g, o + 1, none⟩ x1).setCell ⟨g, o + 2, none⟩ x2).setCell ⟨g, o + 3, none⟩ x3).setCell ⟨g, o + 4, none⟩ x4).setCell ⟨g, o + 5, none⟩ x5 := rfl
theorem setCells8 (w : World) (g o : Nat) (x0 x1 x2 x3 x4 x5 x6 x7 : Value) : w.setCells g o [x0, x1, x2, x3, x4, x5, x6, x7] = (((((((w.setCell ⟨g, o, none⟩ x0).setCell ⟨g, o + 1, none⟩ x1).setCell ⟨g, o + 2, none⟩ x2).setCell ⟨g, o + 3, none⟩ x3).setCell ⟨g, o + 4, none⟩ x4).setCell ⟨g, o + 5, none⟩ x5).setCell ⟨g, o + 6, none⟩ x6).setCell ⟨g, o + 7, none⟩ x7 := rfl
theorem infoI : (Tryz.prog.info? 3).map (fun i => (i.zero, i.size, i.bytes)) = some (some (.int .i64 0), 1, 8) := by kernel_rfl
/-- 'make([]int, n)'. -/
theorem run_make_ints (n : Nat) (hb : 8 * n ≤ 281474976710656) (w : World) :
    (Instr.makeSlice 92 (.int .i64 (n : Int)) (.int .i64 (n : Int))).run Tryz.prog w = .ok (.slice (some ⟨w.heap.size, 0, none⟩) n n) (w.alloc (.cells (madeCells #[.int .i64 0] n) 3)) := by
  obtain ⟨i, hi, hz0, hz1, hz2⟩ := info_parts infoI
  have hr := run_make (P := Tryz.prog) w 92 3 i _ Tryz.underlying92 hi hz0 .i64 .i64 n n (by omega) (Int.le_refl _) (by rw [hz2]; omega) (by omega)
  simp only [Int.toNat_natCast, hz1, Value.cells, Nat.mul_one] at hr
  exact hr

set_option maxHeartbeats 800000 in
theorem toIntS_any (a : Option Addr) (c : Nat) (xs : List Int) (w : World) {q : Option Nat} (hv : IntsAt q w a xs) (hl : xs.length ≤ 1048576) :
    Calls Tryz.prog 171 #[.slice a xs.length c] w fun e w' =>
      (∃ g, w.heap.size ≤ g ∧ e = .returned (.slice (some ⟨g, 0, none⟩) xs.length xs.length) ∧ IntsAt (some w.heap.size) w' (some ⟨g, 0, none⟩) xs) ∧ Below w.heap.size w w' := by
  have hmk := run_make_ints xs.length (by omega)
  go_enter Tryz.func171, Tryz.ntmps171
  go_wp2
  clear hmk
  go_loopw [4] (fun i wr => ∃ (k : Nat), k ≤ xs.length ∧ i = .int .i64 k ∧ RowsOwn intR 3 1 wr w.heap.size xs.length (xs.take k) ∧ Below w.heap.size w wr) (fun i _ => xs.length - (intOf i).toNat)
  case atStart =>
    refine ⟨0, by omega, rfl, ?_, (Below.refl _ _).alloc (Nat.le_refl _) _⟩
    have := RowsOwn.start (R := intR) (t := 3) (m := 1) (w := w) #[.int .i64 0] xs.length
    rwa [Nat.mul_one] at this
  case round =>
    obtain ⟨k, hk, rfl, ho, hb⟩ := hrel
    by_cases hkl : k < xs.length
    · obtain ⟨x, hxk⟩ : ∃ x, xs[k]? = some x := ⟨xs[k], by simp [hkl]⟩
      obtain ⟨b, o, rfl, hq, c0⟩ := (hv.below hb).get hxk
      obtain ⟨x0, y0⟩ := ho.room hkl 0 (by omega)
      have f0 := ho.free (k * 1 + 0)
      simp only [Nat.mul_one, Nat.add_zero] at y0 f0
      go_wp2
      go_roundw
      case rel =>
        refine ⟨k + 1, by omega, by go_num, ?_, hb.setCell (by exact Nat.le_refl _) _⟩
        rw [take_succ' xs k x hxk]
        have := ho.put (x := x) (r := [.int .i64 x]) (k := k) (by simp; omega) hkl rfl rfl (fun _ _ _ h => intR_any h)
        rw [Nat.mul_one] at this
        exact this
      case measure => simp [intOf]; omega
    · go_wp2
      go_ret
      rw [List.take_of_length_le (by omega)] at ho
      exact ⟨⟨w.heap.size, Nat.le_refl _, rfl, ho.at (Nat.le_refl _)⟩, hb⟩

theorem infoTm : (Tryz.prog.info? 90).map (fun i => (i.zero, i.size, i.bytes)) = some (some (.agg #[.int .i64 0, .int .i64 0, .string ⟨#[]⟩, .int .i64 0, .int .i64 0, .string ⟨#[]⟩]), 6, 64) := by kernel_rfl
set_option maxHeartbeats 1600000 in
theorem toTerm_any (x : Tm) (w : World) :
    Calls Tryz.prog 201 #[.agg #[.int .i64 x.kind, .int .i64 x.op, .string x.var, .int .i64 x.val.kind, .int .i64 x.val.num, .string x.val.sym]] w fun e w' =>
      e = .returned (.agg #[.int .i64 x.kind, .int .i64 x.op, .string x.var, .int .i64 x.val.kind, .int .i64 x.val.num, .string x.val.sym]) ∧ Below w.heap.size w w' := by
  have B0 : ∀ o o1 o2, Below w.heap.size w (((w.alloc o).alloc o1).alloc o2) := fun o o1 o2 => (((Below.refl _ _).alloc (Nat.le_refl _) _).alloc (by simp) _).alloc (by simp; omega) _
  go_enter Tryz.func201, Tryz.ntmps201
  go_wp2_with (go_at_call 170; refine (toValue_any x.val _).mono ?_; rintro e w1 ⟨rfl, hb1⟩; have hB1 : Below w.heap.size w w1 := (B0 _ _ _).trans (hb1.mono (by first | (simp; done) | (simp; omega))); have n1 : w.heap.size + 1 + 1 < w1.heap.size := (by have := hb1.size; simp at this; omega); have z1_0 : w1.cell? ⟨w.heap.size + 1 + 1, 0, none⟩ = some (.int .i64 x.kind) := cell_below hb1 (by simp [go_sem]); have y1_0 : w1.cell? ⟨w.heap.size + 1, 0, none⟩ = some (.int .i64 0) := cell_below hb1 (by simp [go_sem]); have p1_0 : w1.cell? ⟨w.heap.size, 0, none⟩ = some (.int .i64 x.kind) := cell_below hb1 (by simp [go_sem]); have zf1_0 : w1.frozen? ⟨w.heap.size + 1 + 1, 0, none⟩ = false := frozen_below hb1 (by simp) (by simp [go_sem]); have yf1_0 : w1.frozen? ⟨w.heap.size + 1, 0, none⟩ = false := frozen_below hb1 (by simp) (by simp [go_sem]); have z1_1 : w1.cell? ⟨w.heap.size + 1 + 1, 1, none⟩ = some (.int .i64 x.op) := cell_below hb1 (by simp [go_sem]); have y1_1 : w1.cell? ⟨w.heap.size + 1, 1, none⟩ = some (.int .i64 0) := cell_below hb1 (by simp [go_sem]); have p1_1 : w1.cell? ⟨w.heap.size, 1, none⟩ = some (.int .i64 x.op) := cell_below hb1 (by simp [go_sem]); have zf1_1 : w1.frozen? ⟨w.heap.size + 1 + 1, 1, none⟩ = false := frozen_below hb1 (by simp) (by simp [go_sem]); have yf1_1 : w1.frozen? ⟨w.heap.size + 1, 1, none⟩ = false := frozen_below hb1 (by simp) (by simp [go_sem]); have z1_2 : w1.cell? ⟨w.heap.size + 1 + 1, 2, none⟩ = some (.string x.var) := cell_below hb1 (by simp [go_sem]); have y1_2 : w1.cell? ⟨w.heap.size + 1, 2, none⟩ = some (.string ⟨#[]⟩) := cell_below hb1 (by simp [go_sem]); have p1_2 : w1.cell? ⟨w.heap.size, 2, none⟩ = some (.string x.var) := cell_below hb1 (by simp [go_sem]); have zf1_2 : w1.frozen? ⟨w.heap.size + 1 + 1, 2, none⟩ = false := frozen_below hb1 (by simp) (by simp [go_sem]); have yf1_2 : w1.frozen? ⟨w.heap.size + 1, 2, none⟩ = false := frozen_below hb1 (by simp) (by simp [go_sem]); have z1_3 : w1.cell? ⟨w.heap.size + 1 + 1, 3, none⟩ = some (.int .i64 0) := cell_below hb1 (by simp [go_sem]); have y1_3 : w1.cell? ⟨w.heap.size + 1, 3, none⟩ = some (.int .i64 0) := cell_below hb1 (by simp [go_sem]); have p1_3 : w1.cell? ⟨w.heap.size, 3, none⟩ = some (.int .i64 x.val.kind) := cell_below hb1 (by simp [go_sem]); have zf1_3 : w1.frozen? ⟨w.heap.size + 1 + 1, 3, none⟩ = false := frozen_below hb1 (by simp) (by simp [go_sem]); have yf1_3 : w1.frozen? ⟨w.heap.size + 1, 3, none⟩ = false := frozen_below hb1 (by simp) (by simp [go_sem]); have z1_4 : w1.cell? ⟨w.heap.size + 1 + 1, 4, none⟩ = some (.int .i64 0) := cell_below hb1 (by simp [go_sem]); have y1_4 : w1.cell? ⟨w.heap.size + 1, 4, none⟩ = some (.int .i64 0) := cell_below hb1 (by simp [go_sem]); have p1_4 : w1.cell? ⟨w.heap.size, 4, none⟩ = some (.int .i64 x.val.num) := cell_below hb1 (by simp [go_sem]); have zf1_4 : w1.frozen? ⟨w.heap.size + 1 + 1, 4, none⟩ = false := frozen_below hb1 (by simp) (by simp [go_sem]); have yf1_4 : w1.frozen? ⟨w.heap.size + 1, 4, none⟩ = false := frozen_below hb1 (by simp) (by simp [go_sem]); have z1_5 : w1.cell? ⟨w.heap.size + 1 + 1, 5, none⟩ = some (.string ⟨#[]⟩) := cell_below hb1 (by simp [go_sem]); have y1_5 : w1.cell? ⟨w.heap.size + 1, 5, none⟩ = some (.string ⟨#[]⟩) := cell_below hb1 (by simp [go_sem]); have p1_5 : w1.cell? ⟨w.heap.size, 5, none⟩ = some (.string x.val.sym) := cell_below hb1 (by simp [go_sem]); have zf1_5 : w1.frozen? ⟨w.heap.size + 1 + 1, 5, none⟩ = false := frozen_below hb1 (by simp) (by simp [go_sem]); have yf1_5 : w1.frozen? ⟨w.heap.size + 1, 5, none⟩ = false := frozen_below hb1 (by simp) (by simp [go_sem]))
  refine bodyPost_ret (v := .agg #[.int .i64 x.kind, .int .i64 x.op, .string x.var, .int .i64 x.val.kind, .int .i64 x.val.num, .string x.val.sym]) (by simp [results, Tryz.results201, go_sem, y1_0, y1_1, y1_2, y1_3, y1_4, y1_5]) rfl ⟨rfl, ?_⟩
  · repeat refine Below.setCell ?_ (by first | (simp; done) | (simp; omega)) _
    exact hB1

set_option maxHeartbeats 1600000 in
theorem toTermS_any (a : Option Addr) (c : Nat) (xs : List Tm) (w : World) {q : Option Nat} (hv : TmsAt q w a xs) (hs : ListLe Tm.le 1048576 xs) :
    Calls Tryz.prog 169 #[.slice a xs.length c] w fun e w' =>
      (∃ g, w.heap.size ≤ g ∧ e = .returned (.slice (some ⟨g, 0, none⟩) xs.length xs.length) ∧ TmsAt (some w.heap.size) w' (some ⟨g, 0, none⟩) xs) ∧ Below w.heap.size w w' := by
  obtain ⟨hl, hs⟩ := hs
  have hmk := run_make_agg (P := Tryz.prog) 84 90 _ 6 64 Tryz.underlying84 infoTm xs.length (by omega) (by omega)
  go_enter Tryz.func169, Tryz.ntmps169
  go_wp2
  clear hmk
  go_loopw [4] (fun i wr => ∃ (k : Nat), k ≤ xs.length ∧ i = .int .i64 k ∧ RowsOwn Tm.R 90 6 wr w.heap.size xs.length (xs.take k) ∧ Below w.heap.size w wr) (fun i _ => xs.length - (intOf i).toNat)
  case atStart => exact ⟨0, by omega, rfl, RowsOwn.start _ _, (Below.refl _ _).alloc (Nat.le_refl _) _⟩
  case round =>
    obtain ⟨k, hk, rfl, ho, hb⟩ := hrel
    by_cases hkl : k < xs.length
    · obtain ⟨x, hxk⟩ : ∃ x, xs[k]? = some x := ⟨xs[k], by simp [hkl]⟩
      obtain ⟨b, o, rfl, hq, c0, c1, c2, c3, c4, c5⟩ := (hv.below hb).get hxk
      have hsx := hs x (List.mem_of_getElem? hxk)
      go_wp2_with (go_at_call 201; refine (toTerm_any x _).mono ?_; rintro e w' ⟨rfl, hb'⟩; have ho' := RowsOwn.below (w' := w') ho (fun _ _ _ h => Tm.R_any h) hb'; obtain ⟨x0, y0⟩ := ho'.room hkl 0 (by omega); have f0 := ho'.free (k * 6 + 0); obtain ⟨x1, y1⟩ := ho'.room hkl 1 (by omega); have f1 := ho'.free (k * 6 + 1); obtain ⟨x2, y2⟩ := ho'.room hkl 2 (by omega); have f2 := ho'.free (k * 6 + 2); obtain ⟨x3, y3⟩ := ho'.room hkl 3 (by omega); have f3 := ho'.free (k * 6 + 3); obtain ⟨x4, y4⟩ := ho'.room hkl 4 (by omega); have f4 := ho'.free (k * 6 + 4); obtain ⟨x5, y5⟩ := ho'.room hkl 5 (by omega); have f5 := ho'.free (k * 6 + 5); simp only [Nat.add_zero] at y0 f0)
      go_roundw
      case rel =>
        refine ⟨k + 1, by omega, by go_num, ?_, ((((((hb.trans (hb'.mono hb.size)).setCell (by exact Nat.le_refl _) _).setCell (by exact Nat.le_refl _) _).setCell (by exact Nat.le_refl _) _).setCell (by exact Nat.le_refl _) _).setCell (by exact Nat.le_refl _) _).setCell (by exact Nat.le_refl _) _⟩
        rw [take_succ' xs k x hxk]
        have hput := ho'.put (x := x) (r := [.int .i64 x.kind, .int .i64 x.op, .string x.var, .int .i64 x.val.kind, .int .i64 x.val.num, .string x.val.sym]) (k := k) (by simp; omega) hkl rfl (rfl) (fun _ _ _ h => Tm.R_any h)
        rw [setCells6] at hput
        exact hput
      case measure => simp [intOf]; omega
    · go_wp2
      go_ret
      rw [List.take_of_length_le (by omega)] at ho
      exact ⟨⟨w.heap.size, Nat.le_refl _, rfl, RowsAt.weak (ho.at (B := w.heap.size) (Nat.le_refl _)) (fun _ h => h) (fun _ _ _ h => Tm.R_any h)⟩, hb⟩

theorem infoPt : (Tryz.prog.info? 86).map (fun i => (i.zero, i.size, i.bytes)) = some (some (.agg #[.bool false, .string ⟨#[]⟩, .slice none 0 0]), 3, 48) := by kernel_rfl
set_option maxHeartbeats 1600000 in
theorem toPattern_any (x : Pt) (a_terms : Option Addr) (c_terms : Nat) {q : Option Nat} (w : World) (h_terms : TmsAt q w a_terms x.terms) (hs : x.le 1048576) :
    Calls Tryz.prog 133 #[.agg #[.bool x.neg, .string x.cls, .slice a_terms x.terms.length c_terms]] w fun e w' =>
      (∃ a_terms' c_terms', e = .returned (.agg #[.bool x.neg, .string x.cls, .slice a_terms' x.terms.length c_terms']) ∧ TmsAt (some w.heap.size) w' a_terms' x.terms ∧ x.terms.length ≤ c_terms') ∧ Below w.heap.size w w' := by
  obtain ⟨s_cls, s_terms⟩ := hs
  have B0 : ∀ o o1 o2, Below w.heap.size w (((w.alloc o).alloc o1).alloc o2) := fun o o1 o2 => (((Below.refl _ _).alloc (Nat.le_refl _) _).alloc (by simp) _).alloc (by simp; omega) _
  go_enter Tryz.func133, Tryz.ntmps133
  go_wp2_with (go_at_call 169; refine (toTermS_any a_terms c_terms x.terms _ (h_terms.below (B0 _ _ _)) s_terms).mono ?_; rintro e w1 ⟨⟨g1, hg1, rfl, ho1⟩, hb1⟩; have hB1 : Below w.heap.size w w1 := (B0 _ _ _).trans (hb1.mono (by first | (simp; done) | (simp; omega))); have n1 : w.heap.size + 1 + 1 < w1.heap.size := (by have := hb1.size; simp at this; omega); have z1_0 : w1.cell? ⟨w.heap.size + 1 + 1, 0, none⟩ = some (.bool x.neg) := cell_below hb1 (by simp [go_sem]); have y1_0 : w1.cell? ⟨w.heap.size + 1, 0, none⟩ = some (.bool false) := cell_below hb1 (by simp [go_sem]); have p1_0 : w1.cell? ⟨w.heap.size, 0, none⟩ = some (.bool x.neg) := cell_below hb1 (by simp [go_sem]); have zf1_0 : w1.frozen? ⟨w.heap.size + 1 + 1, 0, none⟩ = false := frozen_below hb1 (by simp) (by simp [go_sem]); have yf1_0 : w1.frozen? ⟨w.heap.size + 1, 0, none⟩ = false := frozen_below hb1 (by simp) (by simp [go_sem]); have z1_1 : w1.cell? ⟨w.heap.size + 1 + 1, 1, none⟩ = some (.string x.cls) := cell_below hb1 (by simp [go_sem]); have y1_1 : w1.cell? ⟨w.heap.size + 1, 1, none⟩ = some (.string ⟨#[]⟩) := cell_below hb1 (by simp [go_sem]); have p1_1 : w1.cell? ⟨w.heap.size, 1, none⟩ = some (.string x.cls) := cell_below hb1 (by simp [go_sem]); have zf1_1 : w1.frozen? ⟨w.heap.size + 1 + 1, 1, none⟩ = false := frozen_below hb1 (by simp) (by simp [go_sem]); have yf1_1 : w1.frozen? ⟨w.heap.size + 1, 1, none⟩ = false := frozen_below hb1 (by simp) (by simp [go_sem]); have z1_2 : w1.cell? ⟨w.heap.size + 1 + 1, 2, none⟩ = some (.slice none 0 0) := cell_below hb1 (by simp [go_sem]); have y1_2 : w1.cell? ⟨w.heap.size + 1, 2, none⟩ = some (.slice none 0 0) := cell_below hb1 (by simp [go_sem]); have p1_2 : w1.cell? ⟨w.heap.size, 2, none⟩ = some (.slice a_terms x.terms.length c_terms) := cell_below hb1 (by simp [go_sem]); have zf1_2 : w1.frozen? ⟨w.heap.size + 1 + 1, 2, none⟩ = false := frozen_below hb1 (by simp) (by simp [go_sem]); have yf1_2 : w1.frozen? ⟨w.heap.size + 1, 2, none⟩ = false := frozen_below hb1 (by simp) (by simp [go_sem]); have k1_terms : TmsAt (some (w.heap.size + 3)) w1 _ x.terms := ho1.older (by first | (simp; done) | (simp; omega)))
  refine bodyPost_ret (v := .agg #[.bool x.neg, .string x.cls, .slice (some ⟨g1, 0, none⟩) x.terms.length x.terms.length]) (by simp [results, Tryz.results133, go_sem, y1_0, y1_1, y1_2]) rfl ⟨⟨some ⟨g1, 0, none⟩, x.terms.length, rfl, ?_, Nat.le_refl _⟩, ?_⟩
  · refine TmsAt.older (B := w.heap.size + 3) (by omega) ?_
    repeat refine TmsAt.low ?_ (Low.setCell (by omega) _)
    exact k1_terms
  · repeat refine Below.setCell ?_ (by first | (simp; done) | (simp; omega)) _
    exact hB1

set_option maxHeartbeats 1600000 in
theorem toPatternS_any (a : Option Addr) (c : Nat) (xs : List Pt) (w : World) {q : Option Nat} (hv : PtsAt q w a xs) (hs : ListLe Pt.le 1048576 xs) :
    Calls Tryz.prog 87 #[.slice a xs.length c] w fun e w' =>
      (∃ g, w.heap.size ≤ g ∧ e = .returned (.slice (some ⟨g, 0, none⟩) xs.length xs.length) ∧ PtsAt (some w.heap.size) w' (some ⟨g, 0, none⟩) xs) ∧ Below w.heap.size w w' := by
  obtain ⟨hl, hs⟩ := hs
  have hmk := run_make_agg (P := Tryz.prog) 49 86 _ 3 48 Tryz.underlying49 infoPt xs.length (by omega) (by omega)
  go_enter Tryz.func87, Tryz.ntmps87
  go_wp2
  clear hmk
  go_loopw [4] (fun i wr => ∃ (k : Nat), k ≤ xs.length ∧ i = .int .i64 k ∧ RowsOwn (Pt.R (some (w.heap.size + 1))) 86 3 wr w.heap.size xs.length (xs.take k) ∧ Below w.heap.size w wr) (fun i _ => xs.length - (intOf i).toNat)
  case atStart => exact ⟨0, by omega, rfl, RowsOwn.start _ _, (Below.refl _ _).alloc (Nat.le_refl _) _⟩
  case round =>
    obtain ⟨k, hk, rfl, ho, hb⟩ := hrel
    by_cases hkl : k < xs.length
    · obtain ⟨x, hxk⟩ : ∃ x, xs[k]? = some x := ⟨xs[k], by simp [hkl]⟩
      obtain ⟨b, o, a_terms, c_terms, rfl, hq, c0, c1, c2, h_terms⟩ := (hv.below hb).get hxk
      have hsx := hs x (List.mem_of_getElem? hxk)
      go_wp2_with (go_at_call 133; refine (toPattern_any x a_terms c_terms _ h_terms hsx).mono ?_; rintro e w' ⟨⟨a_terms', c_terms', rfl, k_terms, kc⟩, hb'⟩; have ho' := RowsOwn.below (w' := w') ho (fun _ _ _ ⟨a_terms, c_terms, e, h_terms, cp⟩ => ⟨a_terms, c_terms, e, h_terms.below hb', cp⟩) hb'; obtain ⟨x0, y0⟩ := ho'.room hkl 0 (by omega); have f0 := ho'.free (k * 3 + 0); obtain ⟨x1, y1⟩ := ho'.room hkl 1 (by omega); have f1 := ho'.free (k * 3 + 1); obtain ⟨x2, y2⟩ := ho'.room hkl 2 (by omega); have f2 := ho'.free (k * 3 + 2); simp only [Nat.add_zero] at y0 f0)
      go_roundw
      case rel =>
        refine ⟨k + 1, by omega, by go_num, ?_, (((hb.trans (hb'.mono hb.size)).setCell (by exact Nat.le_refl _) _).setCell (by exact Nat.le_refl _) _).setCell (by exact Nat.le_refl _) _⟩
        rw [take_succ' xs k x hxk]
        have hput := ho'.put (x := x) (r := [.bool x.neg, .string x.cls, .slice a_terms' x.terms.length c_terms']) (k := k) (by simp; omega) hkl rfl (⟨a_terms', c_terms', rfl, k_terms.older (by have := ho.lt; omega), kc⟩) (fun _ _ _ ⟨a_terms, c_terms, e, h_terms, cp⟩ => ⟨a_terms, c_terms, e, h_terms.low (Low.setCells (by omega) _ _ _), cp⟩)
        rw [setCells3] at hput
        exact hput
      case measure => simp [intOf]; omega
    · go_wp2
      go_ret
      rw [List.take_of_length_le (by omega)] at ho
      exact ⟨⟨w.heap.size, Nat.le_refl _, rfl, RowsAt.weak (ho.at (B := w.heap.size) (Nat.le_refl _)) (fun _ h => h) (fun _ _ _ ⟨a_terms, c_terms, e, h_terms, cp⟩ => ⟨a_terms, c_terms, e, h_terms.older (by omega), cp⟩)⟩, hb⟩

theorem infoEx : (Tryz.prog.info? 145).map (fun i => (i.zero, i.size, i.bytes)) = some (some (.agg #[.int .i64 0, .int .u8 0, .string ⟨#[]⟩, .int .i64 0, .int .i64 0, .string ⟨#[]⟩, .int .i64 0, .int .i64 0]), 8, 80) := by kernel_rfl
set_option maxHeartbeats 1600000 in
theorem toExpr_any (x : Ex) (w : World) :
    Calls Tryz.prog 134 #[.agg #[.int .i64 x.kind, .int .u8 x.op, .string x.var, .int .i64 x.val.kind, .int .i64 x.val.num, .string x.val.sym, .int .i64 x.a, .int .i64 x.b]] w fun e w' =>
      e = .returned (.agg #[.int .i64 x.kind, .int .u8 x.op, .string x.var, .int .i64 x.val.kind, .int .i64 x.val.num, .string x.val.sym, .int .i64 x.a, .int .i64 x.b]) ∧ Below w.heap.size w w' := by
  have B0 : ∀ o o1 o2, Below w.heap.size w (((w.alloc o).alloc o1).alloc o2) := fun o o1 o2 => (((Below.refl _ _).alloc (Nat.le_refl _) _).alloc (by simp) _).alloc (by simp; omega) _
  go_enter Tryz.func134, Tryz.ntmps134
  go_wp2_with (go_at_call 170; refine (toValue_any x.val _).mono ?_; rintro e w1 ⟨rfl, hb1⟩; have hB1 : Below w.heap.size w w1 := (B0 _ _ _).trans (hb1.mono (by first | (simp; done) | (simp; omega))); have n1 : w.heap.size + 1 + 1 < w1.heap.size := (by have := hb1.size; simp at this; omega); have z1_0 : w1.cell? ⟨w.heap.size + 1 + 1, 0, none⟩ = some (.int .i64 x.kind) := cell_below hb1 (by simp [go_sem]); have y1_0 : w1.cell? ⟨w.heap.size + 1, 0, none⟩ = some (.int .i64 0) := cell_below hb1 (by simp [go_sem]); have p1_0 : w1.cell? ⟨w.heap.size, 0, none⟩ = some (.int .i64 x.kind) := cell_below hb1 (by simp [go_sem]); have zf1_0 : w1.frozen? ⟨w.heap.size + 1 + 1, 0, none⟩ = false := frozen_below hb1 (by simp) (by simp [go_sem]); have yf1_0 : w1.frozen? ⟨w.heap.size + 1, 0, none⟩ = false := frozen_below hb1 (by simp) (by simp [go_sem]); have z1_1 : w1.cell? ⟨w.heap.size + 1 + 1, 1, none⟩ = some (.int .u8 x.op) := cell_below hb1 (by simp [go_sem]); have y1_1 : w1.cell? ⟨w.heap.size + 1, 1, none⟩ = some (.int .u8 0) := cell_below hb1 (by simp [go_sem]); have p1_1 : w1.cell? ⟨w.heap.size, 1, none⟩ = some (.int .u8 x.op) := cell_below hb1 (by simp [go_sem]); have zf1_1 : w1.frozen? ⟨w.heap.size + 1 + 1, 1, none⟩ = false := frozen_below hb1 (by simp) (by simp [go_sem]); have yf1_1 : w1.frozen? ⟨w.heap.size + 1, 1, none⟩ = false := frozen_below hb1 (by simp) (by simp [go_sem]); have z1_2 : w1.cell? ⟨w.heap.size + 1 + 1, 2, none⟩ = some (.string x.var) := cell_below hb1 (by simp [go_sem]); have y1_2 : w1.cell? ⟨w.heap.size + 1, 2, none⟩ = some (.string ⟨#[]⟩) := cell_below hb1 (by simp [go_sem]); have p1_2 : w1.cell? ⟨w.heap.size, 2, none⟩ = some (.string x.var) := cell_below hb1 (by simp [go_sem]); have zf1_2 : w1.frozen? ⟨w.heap.size + 1 + 1, 2, none⟩ = false := frozen_below hb1 (by simp) (by simp [go_sem]); have yf1_2 : w1.frozen? ⟨w.heap.size + 1, 2, none⟩ = false := frozen_below hb1 (by simp) (by simp [go_sem]); have z1_3 : w1.cell? ⟨w.heap.size + 1 + 1, 3, none⟩ = some (.int .i64 0) := cell_below hb1 (by simp [go_sem]); have y1_3 : w1.cell? ⟨w.heap.size + 1, 3, none⟩ = some (.int .i64 0) := cell_below hb1 (by simp [go_sem]); have p1_3 : w1.cell? ⟨w.heap.size, 3, none⟩ = some (.int .i64 x.val.kind) := cell_below hb1 (by simp [go_sem]); have zf1_3 : w1.frozen? ⟨w.heap.size + 1 + 1, 3, none⟩ = false := frozen_below hb1 (by simp) (by simp [go_sem]); have yf1_3 : w1.frozen? ⟨w.heap.size + 1, 3, none⟩ = false := frozen_below hb1 (by simp) (by simp [go_sem]); have z1_4 : w1.cell? ⟨w.heap.size + 1 + 1, 4, none⟩ = some (.int .i64 0) := cell_below hb1 (by simp [go_sem]); have y1_4 : w1.cell? ⟨w.heap.size + 1, 4, none⟩ = some (.int .i64 0) := cell_below hb1 (by simp [go_sem]); have p1_4 : w1.cell? ⟨w.heap.size, 4, none⟩ = some (.int .i64 x.val.num) := cell_below hb1 (by simp [go_sem]); have zf1_4 : w1.frozen? ⟨w.heap.size + 1 + 1, 4, none⟩ = false := frozen_below hb1 (by simp) (by simp [go_sem]); have yf1_4 : w1.frozen? ⟨w.heap.size + 1, 4, none⟩ = false := frozen_below hb1 (by simp) (by simp [go_sem]); have z1_5 : w1.cell? ⟨w.heap.size + 1 + 1, 5, none⟩ = some (.string ⟨#[]⟩) := cell_below hb1 (by simp [go_sem]); have y1_5 : w1.cell? ⟨w.heap.size + 1, 5, none⟩ = some (.string ⟨#[]⟩) := cell_below hb1 (by simp [go_sem]); have p1_5 : w1.cell? ⟨w.heap.size, 5, none⟩ = some (.string x.val.sym) := cell_below hb1 (by simp [go_sem]); have zf1_5 : w1.frozen? ⟨w.heap.size + 1 + 1, 5, none⟩ = false := frozen_below hb1 (by simp) (by simp [go_sem]); have yf1_5 : w1.frozen? ⟨w.heap.size + 1, 5, none⟩ = false := frozen_below hb1 (by simp) (by simp [go_sem]); have z1_6 : w1.cell? ⟨w.heap.size + 1 + 1, 6, none⟩ = some (.int .i64 0) := cell_below hb1 (by simp [go_sem]); have y1_6 : w1.cell? ⟨w.heap.size + 1, 6, none⟩ = some (.int .i64 0) := cell_below hb1 (by simp [go_sem]); have p1_6 : w1.cell? ⟨w.heap.size, 6, none⟩ = some (.int .i64 x.a) := cell_below hb1 (by simp [go_sem]); have zf1_6 : w1.frozen? ⟨w.heap.size + 1 + 1, 6, none⟩ = false := frozen_below hb1 (by simp) (by simp [go_sem]); have yf1_6 : w1.frozen? ⟨w.heap.size + 1, 6, none⟩ = false := frozen_below hb1 (by simp) (by simp [go_sem]); have z1_7 : w1.cell? ⟨w.heap.size + 1 + 1, 7, none⟩ = some (.int .i64 0) := cell_below hb1 (by simp [go_sem]); have y1_7 : w1.cell? ⟨w.heap.size + 1, 7, none⟩ = some (.int .i64 0) := cell_below hb1 (by simp [go_sem]); have p1_7 : w1.cell? ⟨w.heap.size, 7, none⟩ = some (.int .i64 x.b) := cell_below hb1 (by simp [go_sem]); have zf1_7 : w1.frozen? ⟨w.heap.size + 1 + 1, 7, none⟩ = false := frozen_below hb1 (by simp) (by simp [go_sem]); have yf1_7 : w1.frozen? ⟨w.heap.size + 1, 7, none⟩ = false := frozen_below hb1 (by simp) (by simp [go_sem]))
  refine bodyPost_ret (v := .agg #[.int .i64 x.kind, .int .u8 x.op, .string x.var, .int .i64 x.val.kind, .int .i64 x.val.num, .string x.val.sym, .int .i64 x.a, .int .i64 x.b]) (by simp [results, Tryz.results134, go_sem, y1_0, y1_1, y1_2, y1_3, y1_4, y1_5, y1_6, y1_7]) rfl ⟨rfl, ?_⟩
  · repeat refine Below.setCell ?_ (by first | (simp; done) | (simp; omega)) _
    exact hB1

set_option maxHeartbeats 1600000 in
theorem toExprS_any (a : Option Addr) (c : Nat) (xs : List Ex) (w : World) {q : Option Nat} (hv : ExsAt q w a xs) (hs : ListLe Ex.le 1048576 xs) :
    Calls Tryz.prog 88 #[.slice a xs.length c] w fun e w' =>
      (∃ g, w.heap.size ≤ g ∧ e = .returned (.slice (some ⟨g, 0, none⟩) xs.length xs.length) ∧ ExsAt (some w.heap.size) w' (some ⟨g, 0, none⟩) xs) ∧ Below w.heap.size w w' := by
  obtain ⟨hl, hs⟩ := hs
  have hmk := run_make_agg (P := Tryz.prog) 50 145 _ 8 80 Tryz.underlying50 infoEx xs.length (by omega) (by omega)
  go_enter Tryz.func88, Tryz.ntmps88
  go_wp2
  clear hmk
  go_loopw [4] (fun i wr => ∃ (k : Nat), k ≤ xs.length ∧ i = .int .i64 k ∧ RowsOwn Ex.R 145 8 wr w.heap.size xs.length (xs.take k) ∧ Below w.heap.size w wr) (fun i _ => xs.length - (intOf i).toNat)
  case atStart => exact ⟨0, by omega, rfl, RowsOwn.start _ _, (Below.refl _ _).alloc (Nat.le_refl _) _⟩
  case round =>
    obtain ⟨k, hk, rfl, ho, hb⟩ := hrel
    by_cases hkl : k < xs.length
    · obtain ⟨x, hxk⟩ : ∃ x, xs[k]? = some x := ⟨xs[k], by simp [hkl]⟩
      obtain ⟨b, o, rfl, hq, c0, c1, c2, c3, c4, c5, c6, c7⟩ := (hv.below hb).get hxk
      have hsx := hs x (List.mem_of_getElem? hxk)
      go_wp2_with (go_at_call 134; refine (toExpr_any x _).mono ?_; rintro e w' ⟨rfl, hb'⟩; have ho' := RowsOwn.below (w' := w') ho (fun _ _ _ h => Ex.R_any h) hb'; obtain ⟨x0, y0⟩ := ho'.room hkl 0 (by omega); have f0 := ho'.free (k * 8 + 0); obtain ⟨x1, y1⟩ := ho'.room hkl 1 (by omega); have f1 := ho'.free (k * 8 + 1); obtain ⟨x2, y2⟩ := ho'.room hkl 2 (by omega); have f2 := ho'.free (k * 8 + 2); obtain ⟨x3, y3⟩ := ho'.room hkl 3 (by omega); have f3 := ho'.free (k * 8 + 3); obtain ⟨x4, y4⟩ := ho'.room hkl 4 (by omega); have f4 := ho'.free (k * 8 + 4); obtain ⟨x5, y5⟩ := ho'.room hkl 5 (by omega); have f5 := ho'.free (k * 8 + 5); obtain ⟨x6, y6⟩ := ho'.room hkl 6 (by omega); have f6 := ho'.free (k * 8 + 6); obtain ⟨x7, y7⟩ := ho'.room hkl 7 (by omega); have f7 := ho'.free (k * 8 + 7); simp only [Nat.add_zero] at y0 f0)
      go_roundw
      case rel =>
        refine ⟨k + 1, by omega, by go_num, ?_, ((((((((hb.trans (hb'.mono hb.size)).setCell (by exact Nat.le_refl _) _).setCell (by exact Nat.le_refl _) _).setCell (by exact Nat.le_refl _) _).setCell (by exact Nat.le_refl _) _).setCell (by exact Nat.le_refl _) _).setCell (by exact Nat.le_refl _) _).setCell (by exact Nat.le_refl _) _).setCell (by exact Nat.le_refl _) _⟩
        rw [take_succ' xs k x hxk]
        have hput := ho'.put (x := x) (r := [.int .i64 x.kind, .int .u8 x.op, .string x.var, .int .i64 x.val.kind, .int .i64 x.val.num, .string x.val.sym, .int .i64 x.a, .int .i64 x.b]) (k := k) (by simp; omega) hkl rfl (rfl) (fun _ _ _ h => Ex.R_any h)
        rw [setCells8] at hput
        exact hput
      case measure => simp [intOf]; omega
    · go_wp2
      go_ret
      rw [List.take_of_length_le (by omega)] at ho
      exact ⟨⟨w.heap.size, Nat.le_refl _, rfl, RowsAt.weak (ho.at (B := w.heap.size) (Nat.le_refl _)) (fun _ h => h) (fun _ _ _ h => Ex.R_any h)⟩, hb⟩

theorem infoAc : (Tryz.prog.info? 94).map (fun i => (i.zero, i.size, i.bytes)) = some (some (.agg #[.int .i64 0, .int .i64 0, .string ⟨#[]⟩, .slice none 0 0]), 4, 56) := by kernel_rfl
set_option maxHeartbeats 1600000 in
theorem toAction_any (x : Ac) (a_args : Option Addr) (c_args : Nat) {q : Option Nat} (w : World) (h_args : IntsAt q w a_args x.args) (hs : x.le 1048576) :
    Calls Tryz.prog 135 #[.agg #[.int .i64 x.kind, .int .i64 x.k, .string x.cls, .slice a_args x.args.length c_args]] w fun e w' =>
      (∃ a_args' c_args', e = .returned (.agg #[.int .i64 x.kind, .int .i64 x.k, .string x.cls, .slice a_args' x.args.length c_args']) ∧ IntsAt (some w.heap.size) w' a_args' x.args) ∧ Below w.heap.size w w' := by
  obtain ⟨s_cls, s_args⟩ := hs
  have B0 : ∀ o o1 o2, Below w.heap.size w (((w.alloc o).alloc o1).alloc o2) := fun o o1 o2 => (((Below.refl _ _).alloc (Nat.le_refl _) _).alloc (by simp) _).alloc (by simp; omega) _
  go_enter Tryz.func135, Tryz.ntmps135
  go_wp2_with (go_at_call 171; refine (toIntS_any a_args c_args x.args _ (h_args.below (B0 _ _ _)) s_args).mono ?_; rintro e w1 ⟨⟨g1, hg1, rfl, ho1⟩, hb1⟩; have hB1 : Below w.heap.size w w1 := (B0 _ _ _).trans (hb1.mono (by first | (simp; done) | (simp; omega))); have n1 : w.heap.size + 1 + 1 < w1.heap.size := (by have := hb1.size; simp at this; omega); have z1_0 : w1.cell? ⟨w.heap.size + 1 + 1, 0, none⟩ = some (.int .i64 x.kind) := cell_below hb1 (by simp [go_sem]); have y1_0 : w1.cell? ⟨w.heap.size + 1, 0, none⟩ = some (.int .i64 0) := cell_below hb1 (by simp [go_sem]); have p1_0 : w1.cell? ⟨w.heap.size, 0, none⟩ = some (.int .i64 x.kind) := cell_below hb1 (by simp [go_sem]); have zf1_0 : w1.frozen? ⟨w.heap.size + 1 + 1, 0, none⟩ = false := frozen_below hb1 (by simp) (by simp [go_sem]); have yf1_0 : w1.frozen? ⟨w.heap.size + 1, 0, none⟩ = false := frozen_below hb1 (by simp) (by simp [go_sem]); have z1_1 : w1.cell? ⟨w.heap.size + 1 + 1, 1, none⟩ = some (.int .i64 x.k) := cell_below hb1 (by simp [go_sem]); have y1_1 : w1.cell? ⟨w.heap.size + 1, 1, none⟩ = some (.int .i64 0) := cell_below hb1 (by simp [go_sem]); have p1_1 : w1.cell? ⟨w.heap.size, 1, none⟩ = some (.int .i64 x.k) := cell_below hb1 (by simp [go_sem]); have zf1_1 : w1.frozen? ⟨w.heap.size + 1 + 1, 1, none⟩ = false := frozen_below hb1 (by simp) (by simp [go_sem]); have yf1_1 : w1.frozen? ⟨w.heap.size + 1, 1, none⟩ = false := frozen_below hb1 (by simp) (by simp [go_sem]); have z1_2 : w1.cell? ⟨w.heap.size + 1 + 1, 2, none⟩ = some (.string x.cls) := cell_below hb1 (by simp [go_sem]); have y1_2 : w1.cell? ⟨w.heap.size + 1, 2, none⟩ = some (.string ⟨#[]⟩) := cell_below hb1 (by simp [go_sem]); have p1_2 : w1.cell? ⟨w.heap.size, 2, none⟩ = some (.string x.cls) := cell_below hb1 (by simp [go_sem]); have zf1_2 : w1.frozen? ⟨w.heap.size + 1 + 1, 2, none⟩ = false := frozen_below hb1 (by simp) (by simp [go_sem]); have yf1_2 : w1.frozen? ⟨w.heap.size + 1, 2, none⟩ = false := frozen_below hb1 (by simp) (by simp [go_sem]); have z1_3 : w1.cell? ⟨w.heap.size + 1 + 1, 3, none⟩ = some (.slice none 0 0) := cell_below hb1 (by simp [go_sem]); have y1_3 : w1.cell? ⟨w.heap.size + 1, 3, none⟩ = some (.slice none 0 0) := cell_below hb1 (by simp [go_sem]); have p1_3 : w1.cell? ⟨w.heap.size, 3, none⟩ = some (.slice a_args x.args.length c_args) := cell_below hb1 (by simp [go_sem]); have zf1_3 : w1.frozen? ⟨w.heap.size + 1 + 1, 3, none⟩ = false := frozen_below hb1 (by simp) (by simp [go_sem]); have yf1_3 : w1.frozen? ⟨w.heap.size + 1, 3, none⟩ = false := frozen_below hb1 (by simp) (by simp [go_sem]); have k1_args : IntsAt (some (w.heap.size + 3)) w1 _ x.args := ho1.older (by first | (simp; done) | (simp; omega)))
  refine bodyPost_ret (v := .agg #[.int .i64 x.kind, .int .i64 x.k, .string x.cls, .slice (some ⟨g1, 0, none⟩) x.args.length x.args.length]) (by simp [results, Tryz.results135, go_sem, y1_0, y1_1, y1_2, y1_3]) rfl ⟨⟨some ⟨g1, 0, none⟩, x.args.length, rfl, ?_⟩, ?_⟩
  · refine IntsAt.older (B := w.heap.size + 3) (by omega) ?_
    repeat refine IntsAt.low ?_ (Low.setCell (by omega) _)
    exact k1_args
  · repeat refine Below.setCell ?_ (by first | (simp; done) | (simp; omega)) _
    exact hB1

set_option maxHeartbeats 1600000 in
theorem toActionS_any (a : Option Addr) (c : Nat) (xs : List Ac) (w : World) {q : Option Nat} (hv : AcsAt q w a xs) (hs : ListLe Ac.le 1048576 xs) :
    Calls Tryz.prog 89 #[.slice a xs.length c] w fun e w' =>
      (∃ g, w.heap.size ≤ g ∧ e = .returned (.slice (some ⟨g, 0, none⟩) xs.length xs.length) ∧ AcsAt (some w.heap.size) w' (some ⟨g, 0, none⟩) xs) ∧ Below w.heap.size w w' := by
  obtain ⟨hl, hs⟩ := hs
  have hmk := run_make_agg (P := Tryz.prog) 51 94 _ 4 56 Tryz.underlying51 infoAc xs.length (by omega) (by omega)
  go_enter Tryz.func89, Tryz.ntmps89
  go_wp2
  clear hmk
  go_loopw [4] (fun i wr => ∃ (k : Nat), k ≤ xs.length ∧ i = .int .i64 k ∧ RowsOwn (Ac.R (some (w.heap.size + 1))) 94 4 wr w.heap.size xs.length (xs.take k) ∧ Below w.heap.size w wr) (fun i _ => xs.length - (intOf i).toNat)
  case atStart => exact ⟨0, by omega, rfl, RowsOwn.start _ _, (Below.refl _ _).alloc (Nat.le_refl _) _⟩
  case round =>
    obtain ⟨k, hk, rfl, ho, hb⟩ := hrel
    by_cases hkl : k < xs.length
    · obtain ⟨x, hxk⟩ : ∃ x, xs[k]? = some x := ⟨xs[k], by simp [hkl]⟩
      obtain ⟨b, o, a_args, c_args, rfl, hq, c0, c1, c2, c3, h_args⟩ := (hv.below hb).get hxk
      have hsx := hs x (List.mem_of_getElem? hxk)
      go_wp2_with (go_at_call 135; refine (toAction_any x a_args c_args _ h_args hsx).mono ?_; rintro e w' ⟨⟨a_args', c_args', rfl, k_args⟩, hb'⟩; have ho' := RowsOwn.below (w' := w') ho (fun _ _ _ ⟨a_args, c_args, e, h_args⟩ => ⟨a_args, c_args, e, h_args.below hb'⟩) hb'; obtain ⟨x0, y0⟩ := ho'.room hkl 0 (by omega); have f0 := ho'.free (k * 4 + 0); obtain ⟨x1, y1⟩ := ho'.room hkl 1 (by omega); have f1 := ho'.free (k * 4 + 1); obtain ⟨x2, y2⟩ := ho'.room hkl 2 (by omega); have f2 := ho'.free (k * 4 + 2); obtain ⟨x3, y3⟩ := ho'.room hkl 3 (by omega); have f3 := ho'.free (k * 4 + 3); simp only [Nat.add_zero] at y0 f0)
      go_roundw
      case rel =>
        refine ⟨k + 1, by omega, by go_num, ?_, ((((hb.trans (hb'.mono hb.size)).setCell (by exact Nat.le_refl _) _).setCell (by exact Nat.le_refl _) _).setCell (by exact Nat.le_refl _) _).setCell (by exact Nat.le_refl _) _⟩
        rw [take_succ' xs k x hxk]
        have hput := ho'.put (x := x) (r := [.int .i64 x.kind, .int .i64 x.k, .string x.cls, .slice a_args' x.args.length c_args']) (k := k) (by simp; omega) hkl rfl (⟨a_args', c_args', rfl, k_args.older (by have := ho.lt; omega)⟩) (fun _ _ _ ⟨a_args, c_args, e, h_args⟩ => ⟨a_args, c_args, e, h_args.low (Low.setCells (by omega) _ _ _)⟩)
        rw [setCells4] at hput
        exact hput
      case measure => simp [intOf]; omega
    · go_wp2
      go_ret
      rw [List.take_of_length_le (by omega)] at ho
      exact ⟨⟨w.heap.size, Nat.le_refl _, rfl, RowsAt.weak (ho.at (B := w.heap.size) (Nat.le_refl _)) (fun _ h => h) (fun _ _ _ ⟨a_args, c_args, e, h_args⟩ => ⟨a_args, c_args, e, h_args.older (by omega)⟩)⟩, hb⟩

theorem infoRu : (Tryz.prog.info? 53).map (fun i => (i.zero, i.size, i.bytes)) = some (some (.agg #[.string ⟨#[]⟩, .int .i64 0, .slice none 0 0, .slice none 0 0, .slice none 0 0]), 5, 96) := by kernel_rfl
set_option maxHeartbeats 1600000 in
theorem toRule_any (x : Ru) (a_pats : Option Addr) (c_pats : Nat) (a_exprs : Option Addr) (c_exprs : Nat) (a_acts : Option Addr) (c_acts : Nat) {q : Option Nat} (w : World) (h_pats : PtsAt q w a_pats x.pats) (h_exprs : ExsAt q w a_exprs x.exprs) (h_acts : AcsAt q w a_acts x.acts) (hs : x.le 1048576) :
    Calls Tryz.prog 44 #[.agg #[.string x.name, .int .i64 x.sal, .slice a_pats x.pats.length c_pats, .slice a_exprs x.exprs.length c_exprs, .slice a_acts x.acts.length c_acts]] w fun e w' =>
      (∃ a_pats' c_pats' a_exprs' c_exprs' a_acts' c_acts', e = .returned (.agg #[.string x.name, .int .i64 x.sal, .slice a_pats' x.pats.length c_pats', .slice a_exprs' x.exprs.length c_exprs', .slice a_acts' x.acts.length c_acts']) ∧ PtsAt (some w.heap.size) w' a_pats' x.pats ∧ ExsAt (some w.heap.size) w' a_exprs' x.exprs ∧ AcsAt (some w.heap.size) w' a_acts' x.acts ∧ x.exprs.length ≤ c_exprs') ∧ Below w.heap.size w w' := by
  obtain ⟨s_name, s_pats, s_exprs, s_acts⟩ := hs
  have B0 : ∀ o o1 o2, Below w.heap.size w (((w.alloc o).alloc o1).alloc o2) := fun o o1 o2 => (((Below.refl _ _).alloc (Nat.le_refl _) _).alloc (by simp) _).alloc (by simp; omega) _
  go_enter Tryz.func44, Tryz.ntmps44
  go_wp2_with (first | (go_at_call 87; refine (toPatternS_any a_pats c_pats x.pats _ (h_pats.below (B0 _ _ _)) s_pats).mono ?_; rintro e w1 ⟨⟨g1, hg1, rfl, ho1⟩, hb1⟩; have hB1 : Below w.heap.size w w1 := (B0 _ _ _).trans (hb1.mono (by first | (simp; done) | (simp; omega))); have n1 : w.heap.size + 1 + 1 < w1.heap.size := (by have := hb1.size; simp at this; omega); have z1_0 : w1.cell? ⟨w.heap.size + 1 + 1, 0, none⟩ = some (.string x.name) := cell_below hb1 (by simp [go_sem]); have y1_0 : w1.cell? ⟨w.heap.size + 1, 0, none⟩ = some (.string ⟨#[]⟩) := cell_below hb1 (by simp [go_sem]); have p1_0 : w1.cell? ⟨w.heap.size, 0, none⟩ = some (.string x.name) := cell_below hb1 (by simp [go_sem]); have zf1_0 : w1.frozen? ⟨w.heap.size + 1 + 1, 0, none⟩ = false := frozen_below hb1 (by simp) (by simp [go_sem]); have yf1_0 : w1.frozen? ⟨w.heap.size + 1, 0, none⟩ = false := frozen_below hb1 (by simp) (by simp [go_sem]); have z1_1 : w1.cell? ⟨w.heap.size + 1 + 1, 1, none⟩ = some (.int .i64 x.sal) := cell_below hb1 (by simp [go_sem]); have y1_1 : w1.cell? ⟨w.heap.size + 1, 1, none⟩ = some (.int .i64 0) := cell_below hb1 (by simp [go_sem]); have p1_1 : w1.cell? ⟨w.heap.size, 1, none⟩ = some (.int .i64 x.sal) := cell_below hb1 (by simp [go_sem]); have zf1_1 : w1.frozen? ⟨w.heap.size + 1 + 1, 1, none⟩ = false := frozen_below hb1 (by simp) (by simp [go_sem]); have yf1_1 : w1.frozen? ⟨w.heap.size + 1, 1, none⟩ = false := frozen_below hb1 (by simp) (by simp [go_sem]); have z1_2 : w1.cell? ⟨w.heap.size + 1 + 1, 2, none⟩ = some (.slice none 0 0) := cell_below hb1 (by simp [go_sem]); have y1_2 : w1.cell? ⟨w.heap.size + 1, 2, none⟩ = some (.slice none 0 0) := cell_below hb1 (by simp [go_sem]); have p1_2 : w1.cell? ⟨w.heap.size, 2, none⟩ = some (.slice a_pats x.pats.length c_pats) := cell_below hb1 (by simp [go_sem]); have zf1_2 : w1.frozen? ⟨w.heap.size + 1 + 1, 2, none⟩ = false := frozen_below hb1 (by simp) (by simp [go_sem]); have yf1_2 : w1.frozen? ⟨w.heap.size + 1, 2, none⟩ = false := frozen_below hb1 (by simp) (by simp [go_sem]); have z1_3 : w1.cell? ⟨w.heap.size + 1 + 1, 3, none⟩ = some (.slice none 0 0) := cell_below hb1 (by simp [go_sem]); have y1_3 : w1.cell? ⟨w.heap.size + 1, 3, none⟩ = some (.slice none 0 0) := cell_below hb1 (by simp [go_sem]); have p1_3 : w1.cell? ⟨w.heap.size, 3, none⟩ = some (.slice a_exprs x.exprs.length c_exprs) := cell_below hb1 (by simp [go_sem]); have zf1_3 : w1.frozen? ⟨w.heap.size + 1 + 1, 3, none⟩ = false := frozen_below hb1 (by simp) (by simp [go_sem]); have yf1_3 : w1.frozen? ⟨w.heap.size + 1, 3, none⟩ = false := frozen_below hb1 (by simp) (by simp [go_sem]); have z1_4 : w1.cell? ⟨w.heap.size + 1 + 1, 4, none⟩ = some (.slice none 0 0) := cell_below hb1 (by simp [go_sem]); have y1_4 : w1.cell? ⟨w.heap.size + 1, 4, none⟩ = some (.slice none 0 0) := cell_below hb1 (by simp [go_sem]); have p1_4 : w1.cell? ⟨w.heap.size, 4, none⟩ = some (.slice a_acts x.acts.length c_acts) := cell_below hb1 (by simp [go_sem]); have zf1_4 : w1.frozen? ⟨w.heap.size + 1 + 1, 4, none⟩ = false := frozen_below hb1 (by simp) (by simp [go_sem]); have yf1_4 : w1.frozen? ⟨w.heap.size + 1, 4, none⟩ = false := frozen_below hb1 (by simp) (by simp [go_sem]); have k1_pats : PtsAt (some (w.heap.size + 3)) w1 _ x.pats := ho1.older (by first | (simp; done) | (simp; omega))) | (go_at_call 88; refine (toExprS_any a_exprs c_exprs x.exprs _ (h_exprs.below ((hB1).setCell (by first | (simp; done) | (simp; omega)) _)) s_exprs).mono ?_; rintro e w2 ⟨⟨g2, hg2, rfl, ho2⟩, hb2⟩; have hB2 : Below w.heap.size w w2 := ((hB1).setCell (by first | (simp; done) | (simp; omega)) _).trans (hb2.mono (by first | (simp; done) | (simp; omega))); have n2 : w.heap.size + 1 + 1 < w2.heap.size := (by have := hb2.size; simp at this; omega); have z2_0 : w2.cell? ⟨w.heap.size + 1 + 1, 0, none⟩ = some (.string x.name) := cell_below hb2 (by simp [go_sem, z1_0]); have y2_0 : w2.cell? ⟨w.heap.size + 1, 0, none⟩ = some (.string ⟨#[]⟩) := cell_below hb2 (by simp [go_sem, y1_0]); have p2_0 : w2.cell? ⟨w.heap.size, 0, none⟩ = some (.string x.name) := cell_below hb2 (by simp [go_sem, p1_0]); have zf2_0 : w2.frozen? ⟨w.heap.size + 1 + 1, 0, none⟩ = false := frozen_below hb2 (by simp; omega) (by simp [go_sem, zf1_0]); have yf2_0 : w2.frozen? ⟨w.heap.size + 1, 0, none⟩ = false := frozen_below hb2 (by simp; omega) (by simp [go_sem, yf1_0]); have z2_1 : w2.cell? ⟨w.heap.size + 1 + 1, 1, none⟩ = some (.int .i64 x.sal) := cell_below hb2 (by simp [go_sem, z1_1]); have y2_1 : w2.cell? ⟨w.heap.size + 1, 1, none⟩ = some (.int .i64 0) := cell_below hb2 (by simp [go_sem, y1_1]); have p2_1 : w2.cell? ⟨w.heap.size, 1, none⟩ = some (.int .i64 x.sal) := cell_below hb2 (by simp [go_sem, p1_1]); have zf2_1 : w2.frozen? ⟨w.heap.size + 1 + 1, 1, none⟩ = false := frozen_below hb2 (by simp; omega) (by simp [go_sem, zf1_1]); have yf2_1 : w2.frozen? ⟨w.heap.size + 1, 1, none⟩ = false := frozen_below hb2 (by simp; omega) (by simp [go_sem, yf1_1]); have z2_2 : w2.cell? ⟨w.heap.size + 1 + 1, 2, none⟩ = some (.slice (some ⟨g1, 0, none⟩) x.pats.length x.pats.length) := cell_below hb2 (by simp [go_sem, z1_2]); have y2_2 : w2.cell? ⟨w.heap.size + 1, 2, none⟩ = some (.slice none 0 0) := cell_below hb2 (by simp [go_sem, y1_2]); have p2_2 : w2.cell? ⟨w.heap.size, 2, none⟩ = some (.slice a_pats x.pats.length c_pats) := cell_below hb2 (by simp [go_sem, p1_2]); have zf2_2 : w2.frozen? ⟨w.heap.size + 1 + 1, 2, none⟩ = false := frozen_below hb2 (by simp; omega) (by simp [go_sem, zf1_2]); have yf2_2 : w2.frozen? ⟨w.heap.size + 1, 2, none⟩ = false := frozen_below hb2 (by simp; omega) (by simp [go_sem, yf1_2]); have z2_3 : w2.cell? ⟨w.heap.size + 1 + 1, 3, none⟩ = some (.slice none 0 0) := cell_below hb2 (by simp [go_sem, z1_3]); have y2_3 : w2.cell? ⟨w.heap.size + 1, 3, none⟩ = some (.slice none 0 0) := cell_below hb2 (by simp [go_sem, y1_3]); have p2_3 : w2.cell? ⟨w.heap.size, 3, none⟩ = some (.slice a_exprs x.exprs.length c_exprs) := cell_below hb2 (by simp [go_sem, p1_3]); have zf2_3 : w2.frozen? ⟨w.heap.size + 1 + 1, 3, none⟩ = false := frozen_below hb2 (by simp; omega) (by simp [go_sem, zf1_3]); have yf2_3 : w2.frozen? ⟨w.heap.size + 1, 3, none⟩ = false := frozen_below hb2 (by simp; omega) (by simp [go_sem, yf1_3]); have z2_4 : w2.cell? ⟨w.heap.size + 1 + 1, 4, none⟩ = some (.slice none 0 0) := cell_below hb2 (by simp [go_sem, z1_4]); have y2_4 : w2.cell? ⟨w.heap.size + 1, 4, none⟩ = some (.slice none 0 0) := cell_below hb2 (by simp [go_sem, y1_4]); have p2_4 : w2.cell? ⟨w.heap.size, 4, none⟩ = some (.slice a_acts x.acts.length c_acts) := cell_below hb2 (by simp [go_sem, p1_4]); have zf2_4 : w2.frozen? ⟨w.heap.size + 1 + 1, 4, none⟩ = false := frozen_below hb2 (by simp; omega) (by simp [go_sem, zf1_4]); have yf2_4 : w2.frozen? ⟨w.heap.size + 1, 4, none⟩ = false := frozen_below hb2 (by simp; omega) (by simp [go_sem, yf1_4]); have k2_exprs : ExsAt (some (w.heap.size + 3)) w2 _ x.exprs := ho2.older (by first | (simp; done) | (simp; omega)); have k2_pats := ((k1_pats).low (Low.setCell (by omega) _)).below hb2) | (go_at_call 89; refine (toActionS_any a_acts c_acts x.acts _ (h_acts.below ((hB2).setCell (by first | (simp; done) | (simp; omega)) _)) s_acts).mono ?_; rintro e w3 ⟨⟨g3, hg3, rfl, ho3⟩, hb3⟩; have hB3 : Below w.heap.size w w3 := ((hB2).setCell (by first | (simp; done) | (simp; omega)) _).trans (hb3.mono (by first | (simp; done) | (simp; omega))); have n3 : w.heap.size + 1 + 1 < w3.heap.size := (by have := hb3.size; simp at this; omega); have z3_0 : w3.cell? ⟨w.heap.size + 1 + 1, 0, none⟩ = some (.string x.name) := cell_below hb3 (by simp [go_sem, z2_0]); have y3_0 : w3.cell? ⟨w.heap.size + 1, 0, none⟩ = some (.string ⟨#[]⟩) := cell_below hb3 (by simp [go_sem, y2_0]); have p3_0 : w3.cell? ⟨w.heap.size, 0, none⟩ = some (.string x.name) := cell_below hb3 (by simp [go_sem, p2_0]); have zf3_0 : w3.frozen? ⟨w.heap.size + 1 + 1, 0, none⟩ = false := frozen_below hb3 (by simp; omega) (by simp [go_sem, zf2_0]); have yf3_0 : w3.frozen? ⟨w.heap.size + 1, 0, none⟩ = false := frozen_below hb3 (by simp; omega) (by simp [go_sem, yf2_0]); have z3_1 : w3.cell? ⟨w.heap.size + 1 + 1, 1, none⟩ = some (.int .i64 x.sal) := cell_below hb3 (by simp [go_sem, z2_1]); have y3_1 : w3.cell? ⟨w.heap.size + 1, 1, none⟩ = some (.int .i64 0) := cell_below hb3 (by simp [go_sem, y2_1]); have p3_1 : w3.cell? ⟨w.heap.size, 1, none⟩ = some (.int .i64 x.sal) := cell_below hb3 (by simp [go_sem, p2_1]); have zf3_1 : w3.frozen? ⟨w.heap.size + 1 + 1, 1, none⟩ = false := frozen_below hb3 (by simp; omega) (by simp [go_sem, zf2_1]); have yf3_1 : w3.frozen? ⟨w.heap.size + 1, 1, none⟩ = false := frozen_below hb3 (by simp; omega) (by simp [go_sem, yf2_1]); have z3_2 : w3.cell? ⟨w.heap.size + 1 + 1, 2, none⟩ = some (.slice (some ⟨g1, 0, none⟩) x.pats.length x.pats.length) := cell_below hb3 (by simp [go_sem, z2_2]); have y3_2 : w3.cell? ⟨w.heap.size + 1, 2, none⟩ = some (.slice none 0 0) := cell_below hb3 (by simp [go_sem, y2_2]); have p3_2 : w3.cell? ⟨w.heap.size, 2, none⟩ = some (.slice a_pats x.pats.length c_pats) := cell_below hb3 (by simp [go_sem, p2_2]); have zf3_2 : w3.frozen? ⟨w.heap.size + 1 + 1, 2, none⟩ = false := frozen_below hb3 (by simp; omega) (by simp [go_sem, zf2_2]); have yf3_2 : w3.frozen? ⟨w.heap.size + 1, 2, none⟩ = false := frozen_below hb3 (by simp; omega) (by simp [go_sem, yf2_2]); have z3_3 : w3.cell? ⟨w.heap.size + 1 + 1, 3, none⟩ = some (.slice (some ⟨g2, 0, none⟩) x.exprs.length x.exprs.length) := cell_below hb3 (by simp [go_sem, z2_3]); have y3_3 : w3.cell? ⟨w.heap.size + 1, 3, none⟩ = some (.slice none 0 0) := cell_below hb3 (by simp [go_sem, y2_3]); have p3_3 : w3.cell? ⟨w.heap.size, 3, none⟩ = some (.slice a_exprs x.exprs.length c_exprs) := cell_below hb3 (by simp [go_sem, p2_3]); have zf3_3 : w3.frozen? ⟨w.heap.size + 1 + 1, 3, none⟩ = false := frozen_below hb3 (by simp; omega) (by simp [go_sem, zf2_3]); have yf3_3 : w3.frozen? ⟨w.heap.size + 1, 3, none⟩ = false := frozen_below hb3 (by simp; omega) (by simp [go_sem, yf2_3]); have z3_4 : w3.cell? ⟨w.heap.size + 1 + 1, 4, none⟩ = some (.slice none 0 0) := cell_below hb3 (by simp [go_sem, z2_4]); have y3_4 : w3.cell? ⟨w.heap.size + 1, 4, none⟩ = some (.slice none 0 0) := cell_below hb3 (by simp [go_sem, y2_4]); have p3_4 : w3.cell? ⟨w.heap.size, 4, none⟩ = some (.slice a_acts x.acts.length c_acts) := cell_below hb3 (by simp [go_sem, p2_4]); have zf3_4 : w3.frozen? ⟨w.heap.size + 1 + 1, 4, none⟩ = false := frozen_below hb3 (by simp; omega) (by simp [go_sem, zf2_4]); have yf3_4 : w3.frozen? ⟨w.heap.size + 1, 4, none⟩ = false := frozen_below hb3 (by simp; omega) (by simp [go_sem, yf2_4]); have k3_acts : AcsAt (some (w.heap.size + 3)) w3 _ x.acts := ho3.older (by first | (simp; done) | (simp; omega)); have k3_pats := ((k2_pats).low (Low.setCell (by omega) _)).below hb3; have k3_exprs := ((k2_exprs).low (Low.setCell (by omega) _)).below hb3))
  refine bodyPost_ret (v := .agg #[.string x.name, .int .i64 x.sal, .slice (some ⟨g1, 0, none⟩) x.pats.length x.pats.length, .slice (some ⟨g2, 0, none⟩) x.exprs.length x.exprs.length, .slice (some ⟨g3, 0, none⟩) x.acts.length x.acts.length]) (by simp [results, Tryz.results44, go_sem, y3_0, y3_1, y3_2, y3_3, y3_4]) rfl ⟨⟨some ⟨g1, 0, none⟩, x.pats.length, some ⟨g2, 0, none⟩, x.exprs.length, some ⟨g3, 0, none⟩, x.acts.length, rfl, ?_, ?_, ?_, Nat.le_refl _⟩, ?_⟩
  · refine PtsAt.older (B := w.heap.size + 3) (by omega) ?_
    repeat refine PtsAt.low ?_ (Low.setCell (by omega) _)
    exact k3_pats
  · refine ExsAt.older (B := w.heap.size + 3) (by omega) ?_
    repeat refine ExsAt.low ?_ (Low.setCell (by omega) _)
    exact k3_exprs
  · refine AcsAt.older (B := w.heap.size + 3) (by omega) ?_
    repeat refine AcsAt.low ?_ (Low.setCell (by omega) _)
    exact k3_acts
  · repeat refine Below.setCell ?_ (by first | (simp; done) | (simp; omega)) _
    exact hB3

set_option maxHeartbeats 1600000 in
theorem toRuleS_any (a : Option Addr) (c : Nat) (xs : List Ru) (w : World) {q : Option Nat} (hv : RusAt q w a xs) (hs : ListLe Ru.le 1048576 xs) :
    Calls Tryz.prog 21 #[.slice a xs.length c] w fun e w' =>
      (∃ g, w.heap.size ≤ g ∧ e = .returned (.slice (some ⟨g, 0, none⟩) xs.length xs.length) ∧ RusAt (some w.heap.size) w' (some ⟨g, 0, none⟩) xs) ∧ Below w.heap.size w w' := by
  obtain ⟨hl, hs⟩ := hs
  have hmk := run_make_agg (P := Tryz.prog) 23 53 _ 5 96 Tryz.underlying23 infoRu xs.length (by omega) (by omega)
  go_enter Tryz.func21, Tryz.ntmps21
  go_wp2
  clear hmk
  go_loopw [4] (fun i wr => ∃ (k : Nat), k ≤ xs.length ∧ i = .int .i64 k ∧ RowsOwn (Ru.R (some (w.heap.size + 1))) 53 5 wr w.heap.size xs.length (xs.take k) ∧ Below w.heap.size w wr) (fun i _ => xs.length - (intOf i).toNat)
  case atStart => exact ⟨0, by omega, rfl, RowsOwn.start _ _, (Below.refl _ _).alloc (Nat.le_refl _) _⟩
  case round =>
    obtain ⟨k, hk, rfl, ho, hb⟩ := hrel
    by_cases hkl : k < xs.length
    · obtain ⟨x, hxk⟩ : ∃ x, xs[k]? = some x := ⟨xs[k], by simp [hkl]⟩
      obtain ⟨b, o, a_pats, c_pats, a_exprs, c_exprs, a_acts, c_acts, rfl, hq, c0, c1, c2, c3, c4, h_pats, h_exprs, h_acts, cap_exprs⟩ := (hv.below hb).get hxk
      have hsx := hs x (List.mem_of_getElem? hxk)
      go_wp2_with (go_at_call 44; refine (toRule_any x a_pats c_pats a_exprs c_exprs a_acts c_acts _ h_pats h_exprs h_acts hsx).mono ?_; rintro e w' ⟨⟨a_pats', c_pats', a_exprs', c_exprs', a_acts', c_acts', rfl, k_pats, k_exprs, k_acts, cap_exprs⟩, hb'⟩; have ho' := RowsOwn.below (w' := w') ho (fun _ _ _ ⟨a_pats, c_pats, a_exprs, c_exprs, a_acts, c_acts, e, h_pats, h_exprs, h_acts, cap_exprs⟩ => ⟨a_pats, c_pats, a_exprs, c_exprs, a_acts, c_acts, e, h_pats.below hb', h_exprs.below hb', h_acts.below hb', cap_exprs⟩) hb'; obtain ⟨x0, y0⟩ := ho'.room hkl 0 (by omega); have f0 := ho'.free (k * 5 + 0); obtain ⟨x1, y1⟩ := ho'.room hkl 1 (by omega); have f1 := ho'.free (k * 5 + 1); obtain ⟨x2, y2⟩ := ho'.room hkl 2 (by omega); have f2 := ho'.free (k * 5 + 2); obtain ⟨x3, y3⟩ := ho'.room hkl 3 (by omega); have f3 := ho'.free (k * 5 + 3); obtain ⟨x4, y4⟩ := ho'.room hkl 4 (by omega); have f4 := ho'.free (k * 5 + 4); simp only [Nat.add_zero] at y0 f0)
      go_roundw
      case rel =>
        refine ⟨k + 1, by omega, by go_num, ?_, (((((hb.trans (hb'.mono hb.size)).setCell (by exact Nat.le_refl _) _).setCell (by exact Nat.le_refl _) _).setCell (by exact Nat.le_refl _) _).setCell (by exact Nat.le_refl _) _).setCell (by exact Nat.le_refl _) _⟩
        rw [take_succ' xs k x hxk]
        have hput := ho'.put (x := x) (r := [.string x.name, .int .i64 x.sal, .slice a_pats' x.pats.length c_pats', .slice a_exprs' x.exprs.length c_exprs', .slice a_acts' x.acts.length c_acts']) (k := k) (by simp; omega) hkl rfl (⟨a_pats', c_pats', a_exprs', c_exprs', a_acts', c_acts', rfl, k_pats.older (by have := ho.lt; omega), k_exprs.older (by have := ho.lt; omega), k_acts.older (by have := ho.lt; omega), cap_exprs⟩) (fun _ _ _ ⟨a_pats, c_pats, a_exprs, c_exprs, a_acts, c_acts, e, h_pats, h_exprs, h_acts, cap_exprs⟩ => ⟨a_pats, c_pats, a_exprs, c_exprs, a_acts, c_acts, e, h_pats.low (Low.setCells (by omega) _ _ _), h_exprs.low (Low.setCells (by omega) _ _ _), h_acts.low (Low.setCells (by omega) _ _ _), cap_exprs⟩)
        rw [setCells5] at hput
        exact hput
      case measure => simp [intOf]; omega
    · go_wp2
      go_ret
      rw [List.take_of_length_le (by omega)] at ho
      exact ⟨⟨w.heap.size, Nat.le_refl _, rfl, RowsAt.weak (ho.at (B := w.heap.size) (Nat.le_refl _)) (fun _ h => h) (fun _ _ _ ⟨a_pats, c_pats, a_exprs, c_exprs, a_acts, c_acts, e, h_pats, h_exprs, h_acts, cap_exprs⟩ => ⟨a_pats, c_pats, a_exprs, c_exprs, a_acts, c_acts, e, h_pats.older (by omega), h_exprs.older (by omega), h_acts.older (by omega), cap_exprs⟩)⟩, hb⟩

end Go.Proofs.YtfgpcjdjbbhdmaaGreatDoor
