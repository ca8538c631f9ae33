/-
  OUR OWN TEXT. The laws' own copies: Binds and values of exprs (made by lawgen4.py).
-/
import Derived.Test.YtpiglmkpmlogjaaTyB
import Derived.Test.YtpiglmkpmlogjaaToR
namespace Go.Proofs.Ytpiglmkpmlogjaa
open Go.RowKit

theorem infoBd : (Try.prog.info? 208).map (fun i => (i.zero, i.size, i.bytes)) = some (some (.agg #[.string ⟨#[]⟩, .int .i64 0, .int .i64 0, .string ⟨#[]⟩]), 4, 48) := by kernel_rfl
set_option maxHeartbeats 1600000 in
theorem toBind_any (x : Bd) (w : World) :
    Calls Try.prog 140 #[.agg #[.string x.var, .int .i64 x.val.kind, .int .i64 x.val.num, .string x.val.sym]] w fun e w' =>
      e = .returned (.agg #[.string x.var, .int .i64 x.val.kind, .int .i64 x.val.num, .string x.val.sym]) ∧ Below w.heap.size w w' := by
  have B0 : ∀ o o1 o2, Below w.heap.size w (((w.alloc o).alloc o1).alloc o2) := fun o o1 o2 => (((Below.refl _ _).alloc (Nat.le_refl _) _).alloc (by simp) _).alloc (by simp; omega) _
  go_enter Try.func140, Try.ntmps140
  go_wp2_with (go_at_call 91; refine (toValue_any x.val _).mono ?_; rintro e w1 ⟨rfl, hb1⟩; have hB1 : Below w.heap.size w w1 := (B0 _ _ _).trans (hb1.mono (by first | (simp; done) | (simp; omega))); have n1 : w.heap.size + 1 + 1 < w1.heap.size := (by have := hb1.size; simp at this; omega); have z1_0 : w1.cell? ⟨w.heap.size + 1 + 1, 0, none⟩ = some (.string x.var) := cell_below hb1 (by simp [go_sem]); have y1_0 : w1.cell? ⟨w.heap.size + 1, 0, none⟩ = some (.string ⟨#[]⟩) := cell_below hb1 (by simp [go_sem]); have p1_0 : w1.cell? ⟨w.heap.size, 0, none⟩ = some (.string x.var) := cell_below hb1 (by simp [go_sem]); have zf1_0 : w1.frozen? ⟨w.heap.size + 1 + 1, 0, none⟩ = false := frozen_below hb1 (by simp) (by simp [go_sem]); have yf1_0 : w1.frozen? ⟨w.heap.size + 1, 0, none⟩ = false := frozen_below hb1 (by simp) (by simp [go_sem]); have z1_1 : w1.cell? ⟨w.heap.size + 1 + 1, 1, none⟩ = some (.int .i64 0) := cell_below hb1 (by simp [go_sem]); have y1_1 : w1.cell? ⟨w.heap.size + 1, 1, none⟩ = some (.int .i64 0) := cell_below hb1 (by simp [go_sem]); have p1_1 : w1.cell? ⟨w.heap.size, 1, none⟩ = some (.int .i64 x.val.kind) := cell_below hb1 (by simp [go_sem]); have zf1_1 : w1.frozen? ⟨w.heap.size + 1 + 1, 1, none⟩ = false := frozen_below hb1 (by simp) (by simp [go_sem]); have yf1_1 : w1.frozen? ⟨w.heap.size + 1, 1, none⟩ = false := frozen_below hb1 (by simp) (by simp [go_sem]); have z1_2 : w1.cell? ⟨w.heap.size + 1 + 1, 2, none⟩ = some (.int .i64 0) := cell_below hb1 (by simp [go_sem]); have y1_2 : w1.cell? ⟨w.heap.size + 1, 2, none⟩ = some (.int .i64 0) := cell_below hb1 (by simp [go_sem]); have p1_2 : w1.cell? ⟨w.heap.size, 2, none⟩ = some (.int .i64 x.val.num) := cell_below hb1 (by simp [go_sem]); have zf1_2 : w1.frozen? ⟨w.heap.size + 1 + 1, 2, none⟩ = false := frozen_below hb1 (by simp) (by simp [go_sem]); have yf1_2 : w1.frozen? ⟨w.heap.size + 1, 2, none⟩ = false := frozen_below hb1 (by simp) (by simp [go_sem]); have z1_3 : w1.cell? ⟨w.heap.size + 1 + 1, 3, none⟩ = some (.string ⟨#[]⟩) := cell_below hb1 (by simp [go_sem]); have y1_3 : w1.cell? ⟨w.heap.size + 1, 3, none⟩ = some (.string ⟨#[]⟩) := cell_below hb1 (by simp [go_sem]); have p1_3 : w1.cell? ⟨w.heap.size, 3, none⟩ = some (.string x.val.sym) := cell_below hb1 (by simp [go_sem]); have zf1_3 : w1.frozen? ⟨w.heap.size + 1 + 1, 3, none⟩ = false := frozen_below hb1 (by simp) (by simp [go_sem]); have yf1_3 : w1.frozen? ⟨w.heap.size + 1, 3, none⟩ = false := frozen_below hb1 (by simp) (by simp [go_sem]))
  refine bodyPost_ret (v := .agg #[.string x.var, .int .i64 x.val.kind, .int .i64 x.val.num, .string x.val.sym]) (by simp [results, Try.results140, go_sem, y1_0, y1_1, y1_2, y1_3]) rfl ⟨rfl, ?_⟩
  · repeat refine Below.setCell ?_ (by first | (simp; done) | (simp; omega)) _
    exact hB1

set_option maxHeartbeats 1600000 in
theorem toBindS_any (a : Option Addr) (c : Nat) (xs : List Bd) (w : World) {q : Option Nat} (hv : BdsAt q w a xs) (hs : ListLe Bd.le 1048576 xs) :
    Calls Try.prog 77 #[.slice a xs.length c] w fun e w' =>
      (∃ g, w.heap.size ≤ g ∧ e = .returned (.slice (some ⟨g, 0, none⟩) xs.length xs.length) ∧ BdsAt (some w.heap.size) w' (some ⟨g, 0, none⟩) xs) ∧ Below w.heap.size w w' := by
  obtain ⟨hl, hs⟩ := hs
  have hmk := run_make_agg (P := Try.prog) 126 208 _ 4 48 Try.underlying126 infoBd xs.length (by omega) (by omega)
  go_enter Try.func77, Try.ntmps77
  go_wp2
  clear hmk
  go_loopw [4] (fun i wr => ∃ (k : Nat), k ≤ xs.length ∧ i = .int .i64 k ∧ RowsOwn Bd.R 208 4 wr w.heap.size xs.length (xs.take k) ∧ Below w.heap.size w wr) (fun i _ => xs.length - (intOf i).toNat)
  case atStart => exact ⟨0, by omega, rfl, RowsOwn.start _ _, (Below.refl _ _).alloc (Nat.le_refl _) _⟩
  case round =>
    obtain ⟨k, hk, rfl, ho, hb⟩ := hrel
    by_cases hkl : k < xs.length
    · obtain ⟨x, hxk⟩ : ∃ x, xs[k]? = some x := ⟨xs[k], by simp [hkl]⟩
      obtain ⟨b, o, rfl, hq, c0, c1, c2, c3⟩ := (hv.below hb).get hxk
      have hsx := hs x (List.mem_of_getElem? hxk)
      go_wp2_with (go_at_call 140; refine (toBind_any x _).mono ?_; rintro e w' ⟨rfl, hb'⟩; have ho' := RowsOwn.below (w' := w') ho (fun _ _ _ h => Bd.R_any h) hb'; obtain ⟨x0, y0⟩ := ho'.room hkl 0 (by omega); have f0 := ho'.free (k * 4 + 0); obtain ⟨x1, y1⟩ := ho'.room hkl 1 (by omega); have f1 := ho'.free (k * 4 + 1); obtain ⟨x2, y2⟩ := ho'.room hkl 2 (by omega); have f2 := ho'.free (k * 4 + 2); obtain ⟨x3, y3⟩ := ho'.room hkl 3 (by omega); have f3 := ho'.free (k * 4 + 3); simp only [Nat.add_zero] at y0 f0)
      go_roundw
      case rel =>
        refine ⟨k + 1, by omega, by go_num, ?_, ((((hb.trans (hb'.mono hb.size)).setCell (by exact Nat.le_refl _) _).setCell (by exact Nat.le_refl _) _).setCell (by exact Nat.le_refl _) _).setCell (by exact Nat.le_refl _) _⟩
        rw [take_succ' xs k x hxk]
        have hput := ho'.put (x := x) (r := [.string x.var, .int .i64 x.val.kind, .int .i64 x.val.num, .string x.val.sym]) (k := k) (by simp; omega) hkl rfl (rfl) (fun _ _ _ h => Bd.R_any h)
        rw [setCells4] at hput
        exact hput
      case measure => simp [intOf]; omega
    · go_wp2
      go_ret
      rw [List.take_of_length_le (by omega)] at ho
      exact ⟨⟨w.heap.size, Nat.le_refl _, rfl, RowsAt.weak (ho.at (B := w.heap.size) (Nat.le_refl _)) (fun _ h => h) (fun _ _ _ h => Bd.R_any h)⟩, hb⟩

theorem infoEv : (Try.prog.info? 122).map (fun i => (i.zero, i.size, i.bytes)) = some (some (.agg #[.int .i64 0, .int .i64 0, .int .i64 0, .string ⟨#[]⟩]), 4, 40) := by kernel_rfl
end Go.Proofs.Ytpiglmkpmlogjaa
