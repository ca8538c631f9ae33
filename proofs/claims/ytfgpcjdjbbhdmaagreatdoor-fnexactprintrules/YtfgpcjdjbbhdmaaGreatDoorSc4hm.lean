/-
  OUR OWN TEXT. The model's side of the checker: what an operation's own region needs.
-/
import Derived.Test.YtfgpcjdjbbhdmaaGreatDoorZj
import Derived.Deep.RegionHeld3
import Derived.Deep.DrawnRows
import Derived.BigQuiet
import Derived.Laws.BytesArg
namespace Go.Proofs.YtfgpcjdjbbhdmaaGreatDoor
open Go.RowKit
attribute [local go_sem ↓] Go.wp_at_zero Go.wp_at_succ

theorem below_drewN' {B n : Nat} {a w : World} (h : Below B a w) : Below B a (w.drewN n) := ⟨h.os, h.tape, h.output, h.size, h.block⟩

def arB : List ByteArray := [⟨#[43]⟩, ⟨#[45]⟩, ⟨#[42]⟩, ⟨#[47]⟩, ⟨#[37]⟩]
def oneB (c : Int) : ByteArray := strOfNums [c]
theorem memB_ar {c : Int} (h0 : 0 ≤ c) (h1 : c < 256) : memB (oneB c) arB = isAr c := by
  have key : ∀ n : Fin 256, memB (oneB ((n.val : Nat) : Int)) arB = isAr ((n.val : Nat) : Int) := by decide +kernel
  obtain ⟨n, rfl⟩ := Int.eq_ofNat_of_zero_le h0
  exact key ⟨n, by omega⟩

theorem run_conv1 (c : Int) (w : World) (b : Nat) (h : w.cell? ⟨b, 0, none⟩ = some (.int .u8 c)) : (convert 22 9 (.slice (some ⟨b, 0, none⟩) 1 1)).run Tryz.prog w = .ok (.string (oneB c)) w :=
  run_convert_bytes_arg (P := Tryz.prog) _ 22 5 Tryz.underlying22 Tryz.underlying5 b 0 1 1 [c] rfl (fun i hi => by
    obtain rfl : i = 0 := by omega
    simpa using h) 9 Tryz.underlying9

def arCells : Obj := .cells #[.string ⟨#[43]⟩, .string ⟨#[45]⟩, .string ⟨#[42]⟩, .string ⟨#[47]⟩, .string ⟨#[37]⟩] 9
set_option maxHeartbeats 400000 in
theorem l2Ariths_any (w : World) : Calls Tryz.prog 103 #[] w fun e w' => e = .returned (.slice (some ⟨w.heap.size, 0, none⟩) 5 5) ∧ w' = w.alloc (.cells #[.string ⟨#[43]⟩, .string ⟨#[45]⟩, .string ⟨#[42]⟩, .string ⟨#[47]⟩, .string ⟨#[37]⟩] 9) := by
  go_enter Tryz.func103, Tryz.ntmps103
  go_wp2
  go_ret
  exact ⟨rfl, rfl⟩
theorem ar_at (w : World) (b : Nat) (h : w.heap[b]? = some (.cells #[.string ⟨#[43]⟩, .string ⟨#[45]⟩, .string ⟨#[42]⟩, .string ⟨#[47]⟩, .string ⟨#[37]⟩] 9 (0, 0))) : StrsAt none w (some ⟨b, 0, none⟩) arB := by
  intro i x hx
  refine ⟨b, 0, [.string x], rfl, Qb.bare _ _ _, rfl, ?_, rfl⟩
  intro j v hj
  have hj0 : j = 0 := by
    have := (List.getElem?_eq_some_iff.1 hj).1
    simp at this
    exact this
  subst hj0
  simp at hj
  subst hj
  have hi : i < 5 := (List.getElem?_eq_some_iff.1 hx).1
  simp only [World.cell?, h]
  match i, hi with
  | 0, _ => simp [arB] at hx; simp [hx]
  | 1, _ => simp [arB] at hx; simp [hx]
  | 2, _ => simp [arB] at hx; simp [hx]
  | 3, _ => simp [arB] at hx; simp [hx]
  | 4, _ => simp [arB] at hx; simp [hx]

theorem l2Is_ar (c : Int) (h0 : 0 ≤ c) (h1 : c < 256) (b : Nat) (w : World) (h : w.heap[b]? = some (.cells #[.string ⟨#[43]⟩, .string ⟨#[45]⟩, .string ⟨#[42]⟩, .string ⟨#[47]⟩, .string ⟨#[37]⟩] 9 (0, 0))) :
    Calls Tryz.prog 102 #[.string (oneB c), .slice (some ⟨b, 0, none⟩) 5 5] w fun e w' => e = .returned (.bool (isAr c)) ∧ w' = w := by
  rw [← memB_ar h0 h1]
  exact l2Is_any (oneB c) _ 5 arB w (ar_at w b h) (by decide)
theorem ar_new (w : World) (o : Obj) (b : Nat) (h : b = w.heap.size) : (w.alloc o).drew.heap[b]? = some o := by
  subst h
  exact heap_alloc_new _ _
theorem ar_old (w : World) (o o' : Obj) (b : Nat) (h : b = w.heap.size) : ((w.alloc o).alloc o').drew.heap[b]? = some o := by
  subst h
  exact (Below.heap_alloc _ _ _ (by simp)).trans (heap_alloc_new _ _)

end Go.Proofs.YtfgpcjdjbbhdmaaGreatDoor
