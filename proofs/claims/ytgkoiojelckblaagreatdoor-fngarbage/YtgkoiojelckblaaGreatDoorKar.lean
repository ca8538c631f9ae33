/-
  OUR OWN TEXT. Sc4h, Sc4o6, one behind the other.
-/
import Derived.Test.YtgkoiojelckblaaGreatDoorSc1m
import Derived.Test.YtgkoiojelckblaaGreatDoorSc2m
import Derived.Deep.RegionHeld3
import Derived.Deep.DrawnRows
import Derived.BigQuiet
import Derived.Laws.BytesArg
import Derived.Test.YtgkoiojelckblaaGreatDoorHwm
namespace Go.Proofs.YtgkoiojelckblaaGreatDoor
open Go.RowKit
attribute [local go_sem ↓] Go.wp_at_zero Go.wp_at_succ

theorem below_drewN' {B n : Nat} {a w : World} (h : Below B a w) : Below B a (w.drewN n) := ⟨h.os, h.tape, h.output, h.size, h.block⟩

def arB : List ByteArray := [⟨#[43]⟩, ⟨#[45]⟩, ⟨#[42]⟩, ⟨#[47]⟩, ⟨#[37]⟩]
def oneB (c : Int) : ByteArray := strOfNums [c]
theorem memB_ar {c : Int} (h0 : 0 ≤ c) (h1 : c < 256) : memB (oneB c) arB = isAr c := by
  have key : ∀ n : Fin 256, memB (oneB ((n.val : Nat) : Int)) arB = isAr ((n.val : Nat) : Int) := by decide +kernel
  obtain ⟨n, rfl⟩ := Int.eq_ofNat_of_zero_le h0
  exact key ⟨n, by omega⟩

theorem run_conv1 (c : Int) (w : World) (b : Nat) (h : w.cell? ⟨b, 0, none⟩ = some (.int .u8 c)) : (convert 22 9 (.slice (some ⟨b, 0, none⟩) 1 1)).run Tryz.prog w = .ok (.string (oneB c)) w :=
  run_convert_bytes_arg (P := Tryz.prog) _ 22 5 Tryz.underlying22 Tryz.underlying5 b 0 1 1 [c] rfl (fun i hi => by
    obtain rfl : i = 0 := by omega
    simpa using h) 9 Tryz.underlying9

set_option maxHeartbeats 400000 in
theorem l2Ariths_any (w : World) : Calls Tryz.prog 154 #[] w fun e w' => e = .returned (.slice (some ⟨w.heap.size, 0, none⟩) 5 5) ∧ w' = w.alloc (.cells #[.string ⟨#[43]⟩, .string ⟨#[45]⟩, .string ⟨#[42]⟩, .string ⟨#[47]⟩, .string ⟨#[37]⟩] 9) := by
  go_enter Tryz.func154, Tryz.ntmps154
  go_wp2
  go_ret
  exact ⟨rfl, rfl⟩
theorem ar_at (w : World) (b : Nat) (h : w.heap[b]? = some (.cells #[.string ⟨#[43]⟩, .string ⟨#[45]⟩, .string ⟨#[42]⟩, .string ⟨#[47]⟩, .string ⟨#[37]⟩] 9 (0, 0))) : StrsAt none w (some ⟨b, 0, none⟩) arB := by
  intro i x hx
  refine ⟨b, 0, [.string x], rfl, Qb.bare _ _ _, rfl, ?_, rfl⟩
  intro j v hj
  have hj0 : j = 0 := by
    have := (List.getElem?_eq_some_iff.1 hj).1
    simp at this
    exact this
  subst hj0
  simp at hj
  subst hj
  have hi : i < 5 := (List.getElem?_eq_some_iff.1 hx).1
  simp only [World.cell?, h]
  match i, hi with
  | 0, _ => simp [arB] at hx; simp [hx]
  | 1, _ => simp [arB] at hx; simp [hx]
  | 2, _ => simp [arB] at hx; simp [hx]
  | 3, _ => simp [arB] at hx; simp [hx]
  | 4, _ => simp [arB] at hx; simp [hx]

theorem l2Is_ar (c : Int) (h0 : 0 ≤ c) (h1 : c < 256) (b : Nat) (w : World) (h : w.heap[b]? = some (.cells #[.string ⟨#[43]⟩, .string ⟨#[45]⟩, .string ⟨#[42]⟩, .string ⟨#[47]⟩, .string ⟨#[37]⟩] 9 (0, 0))) :
    Calls Tryz.prog 98 #[.string (oneB c), .slice (some ⟨b, 0, none⟩) 5 5] w fun e w' => e = .returned (.bool (isAr c)) ∧ w' = w := by
  rw [← memB_ar h0 h1]
  exact l2Is_any (oneB c) _ 5 arB w (ar_at w b h) (by decide)
theorem ar_new (w : World) (o : Obj) (b : Nat) (h : b = w.heap.size) : (w.alloc o).drew.heap[b]? = some o := by
  subst h
  exact heap_alloc_new _ _
theorem ar_old (w : World) (o o' : Obj) (b : Nat) (h : b = w.heap.size) : ((w.alloc o).alloc o').drew.heap[b]? = some o := by
  subst h
  exact (Below.heap_alloc _ _ _ (by simp)).trans (heap_alloc_new _ _)

end Go.Proofs.YtgkoiojelckblaaGreatDoor

namespace Go.Proofs.YtgkoiojelckblaaGreatDoor
open Go.RowKit
attribute [local go_sem ↓] Go.wp_at_zero Go.wp_at_succ

theorem hidSF {p : Prop} (h : p) : Hid p := h

set_option maxHeartbeats 3200000 in
theorem goodExpr_o7b (a : Option Addr) (c : Nat) (es : List Ex) (S : List Sp) (e : Ex) (w : World) {q : Option Nat} (hv : ExsAt q w a es) (hl : es.length ≤ 60) (he : es[S.length]? = some e) (ho0 : 0 ≤ e.op) (ho1 : e.op < 256) (k2 : e.kind = 2) (har : isAr e.op = true) (hva : e.var.toList.isEmpty = true) (hz : zeroV e.val = true) (hS : Spans es S) (bn : Nat) (hbn : bn + 1 = S.length) (heb : e.b = (bn : Int)) (sb : Sp) (hsb : S[bn]? = some sb) (ha0 : ¬ e.a < 0) (hd : (e.a == (sb.1 : Int) - 1) = true) (ea : Nat) (sa : Sp) (hea : e.a = (ea : Int)) (hsa : S[ea]? = some sa) :
    Calls Tryz.prog 96 #[.slice a es.length c, .int .i64 (S.length : Int)] w fun e' w' => e' = .returned (.bool (decide (1 + max sa.2 sb.2 ≤ 20))) ∧ Below w.heap.size w w' := by
  have hkl : S.length < es.length := (List.getElem?_eq_some_iff.1 he).1
  have B1 : ∀ o, Below w.heap.size w (w.alloc o) := fun o => (Below.refl _ _).alloc (Nat.le_refl _) _
  have B3 : ∀ o o1 o2, Below w.heap.size w (((w.alloc o).drew.alloc o1).alloc o2) := fun o o1 o2 => ((B1 o).drew.alloc (by simp) _).alloc (by simp; omega) _
  have hv0 := hv
  obtain ⟨b, o, rfl, hq, c0, c1, c2, c3, c4, c5, c6, c7⟩ := hv.get he
  have hcv := run_conv1 e.op
  have hIs := hidSF (l2Is_ar e.op ho0 ho1)
  rw [har] at hIs
  have hZ := hidSF (fun w => l2Zero_any e.val w)
  rw [hz] at hZ
  have hbi : (e.b != (S.length : Int) - 1) = false := by simp [heb]; omega
  have hw : IntKind.i64.wrap ((S.length : Int) - 1) = (S.length : Int) - 1 := by rw [IntKind.wrap_i64]; omega
  have hb0d : decide (e.b < 0) = false := decide_eq_false (by omega)
  have ha0d : decide (e.a < 0) = false := decide_eq_false ha0
  have hfl := hS.first_le bn sb hsb
  have hw2 : IntKind.i64.wrap ((sb.1 : Int) - 1) = (sb.1 : Int) - 1 := by rw [IntKind.wrap_i64]; omega
  have hF0 : ∀ w', ExsAt q w' (some ⟨b, o, none⟩) es → Calls Tryz.prog 99 #[.slice (some ⟨b, o, none⟩) es.length c, .int .i64 e.b] w' fun e w'' => e = .returned (.int .i64 (sb.1 : Int)) ∧ w'' = w' := fun w' h => by
    rw [heb]
    exact l2First_any (some ⟨b, o, none⟩) c es S bn sb w' h hS hsb
  have hF := hidSF hF0
  clear hF0
  have hDp := hidSF (fun w' (h : ExsAt q w' (some ⟨b, o, none⟩) es) => l2Depth_op (some ⟨b, o, none⟩) c es S.length ea bn sa.2 sb.2 e w' h he k2 hea heb (hS.depth_le ea sa hsa) (hS.depth_le bn sb hsb) (l2Depth_any (some ⟨b, o, none⟩) c es S w' h hS ea sa hsa) (l2Depth_any (some ⟨b, o, none⟩) c es S w' h hS bn sb hsb))
  clear hea hsa
  clear heb hsb hfl hbn hS

  rw [k2] at c0
  clear hq hv
  have h1 : (e.op == 0) = false := by
    cases h : (e.op == 0)
    · rfl
    · have h0 : e.op = 0 := by simpa using h
      rw [h0] at har
      exact absurd har (by decide)
  go_enter Tryz.func96, Tryz.ntmps96
  go_wp2
  clear c0 c1 c2 c3 c4 c5 c6 c7 he
  (try clear h3); (try clear h2); clear h1
  refine wp_region_noPanic ?_
  refine wp_region_held_drew (S := (fun w' => w'.cell? ⟨w.heap.size, 0, none⟩ = some (.int .i64 2) ∧ w'.cell? ⟨w.heap.size, 1, none⟩ = some (.int .u8 e.op) ∧ w'.cell? ⟨w.heap.size, 2, none⟩ = some (.string e.var) ∧ w'.cell? ⟨w.heap.size, 3, none⟩ = some (.int .i64 e.val.kind) ∧ w'.cell? ⟨w.heap.size, 4, none⟩ = some (.int .i64 e.val.num) ∧ w'.cell? ⟨w.heap.size, 5, none⟩ = some (.string e.val.sym) ∧ w'.cell? ⟨w.heap.size, 6, none⟩ = some (.int .i64 e.a) ∧ w'.cell? ⟨w.heap.size, 7, none⟩ = some (.int .i64 e.b))) (by kernel_rfl) ?_ (fun hHeld => ?_)
  · (try dsimp only)
    (go_split_ands; refine ⟨?_, ?_, ?_, ?_, ?_, ?_, ?_, ?_⟩ <;> first | (simp [go_sem]; done) | exact cell_below hb' (by assumption))
  refine tk 0 hHeld ?_
  (try simp only [pA, pZ, pS])
  refine tk 1 hHeld ?_
  (try simp only [pA, pZ, pS])
  refine wpAnyH_ready (rs := [2, 4]) (by kernel_rfl) (by simp) (AllReadyH.cons (List.getElem?_toArray.trans rfl) (fun K hK => ?_) (AllReadyH.cons (List.getElem?_toArray.trans rfl) (fun K hK => ?_) AllReadyH.nil))
  · go_simp
    refine hK.out _ _ ?hS126 (fun hHeld => ?_)
    case hS126 => ((try dsimp only); (go_split_ands; refine ⟨?_, ?_, ?_, ?_, ?_, ?_, ?_, ?_⟩ <;> first | (simp [go_sem]; done) | exact cell_below hb' (by assumption)))
    clear hK K
    (first | simp only [pA, pZ, pS] | simp only [pN] | skip)
    refine wpAnyH_ready (rs := [3, 4]) (by kernel_rfl) (by simp) (AllReadyH.cons (List.getElem?_toArray.trans rfl) (fun K hK => ?_) (AllReadyH.cons (List.getElem?_toArray.trans rfl) (fun K hK => ?_) AllReadyH.nil))
    · go_simp
      refine hK.out _ _ ?hS127 (fun hHeld => ?_)
      case hS127 => ((try dsimp only); (go_split_ands; refine ⟨?_, ?_, ?_, ?_, ?_, ?_, ?_, ?_⟩ <;> first | (simp [go_sem]; done) | exact cell_below hb' (by assumption)))
      clear hK K
      (first | simp only [pA, pZ, pS] | simp only [pN] | skip)
      refine wpAnyH_ready (rs := [4]) (by kernel_rfl) (by simp) (AllReadyH.cons (List.getElem?_toArray.trans rfl) (fun K hK => ?_) AllReadyH.nil)
      go_simp
      (go_at_call 154; refine (l2Ariths_any _).mono ?_; rintro e' w' ⟨rfl, rfl⟩)
      (try go_wp2_with fail)
      refine hK.out _ _ ?hS128 (fun hHeld => ?_)
      case hS128 => ((try dsimp only); (go_split_ands; refine ⟨?_, ?_, ?_, ?_, ?_, ?_, ?_, ?_⟩ <;> first | (simp [go_sem]; done) | exact cell_below hb' (by assumption)))
      clear hK K
      (first | simp only [pA, pZ, pS] | simp only [pN] | skip)
      refine wpAnyH_ready (rs := [5]) (by kernel_rfl) (by simp) (AllReadyH.cons (List.getElem?_toArray.trans rfl) (fun K hK => ?_) AllReadyH.nil)
      go_simp
      (go_at_call 98; refine (hIs.out _ _ ?_).mono ?_; (first | exact ar_new _ _ _ (by simp) | exact ar_old _ _ _ _ (by simp)); rintro e' w' ⟨rfl, rfl⟩)
      (try go_wp2_with fail)
      refine hK.out _ _ ?hS129 (fun hHeld => ?_)
      case hS129 => ((try dsimp only); (go_split_ands; refine ⟨?_, ?_, ?_, ?_, ?_, ?_, ?_, ?_⟩ <;> first | (simp [go_sem]; done) | exact cell_below hb' (by assumption)))
      clear hK K
      (first | simp only [pA, pZ, pS] | simp only [pN] | skip)
      refine tk 6 hHeld ?_
      (try simp only [pA, pZ, pS])
      refine tk 7 hHeld ?_
      (try simp only [pA, pZ, pS])
      refine tk 8 hHeld ?_
      (try simp only [pA, pZ, pS])
      refine tk 9 hHeld ?_
      (try simp only [pA, pZ, pS])
      refine tk 10 hHeld ?_
      (try simp only [pA, pZ, pS])
      refine tk 11 hHeld ?_
      (try simp only [pA, pZ, pS])
      refine tk 12 hHeld ?_
      (try simp only [pA, pZ, pS])
      refine tk 13 hHeld ?_
      (try simp only [pA, pZ, pS])
      refine tk 14 hHeld ?_
      (try simp only [pA, pZ, pS])
      refine wpAnyH_ready (rs := [15]) (by kernel_rfl) (by simp) (AllReadyH.cons (List.getElem?_toArray.trans rfl) (fun K hK => ?_) AllReadyH.nil)
      go_simp
      (go_at_call 153; refine (hZ.out _).mono ?_; rintro e' w' ⟨rfl, hb'⟩)
      (try go_wp2_with fail)
      refine hK.out _ _ ?hS130 (fun hHeld => ?_)
      case hS130 => ((try dsimp only); (go_split_ands; refine ⟨?_, ?_, ?_, ?_, ?_, ?_, ?_, ?_⟩ <;> first | (simp [go_sem]; done) | exact cell_below hb' (by assumption)))
      clear hK K
      (first | simp only [pA, pZ, pS] | simp only [pN] | skip)
      refine tk 16 hHeld ?_
      (try simp only [pA, pZ, pS])
      refine tk 17 hHeld ?_
      (try simp only [pA, pZ, pS])
      refine tk 18 hHeld ?_
      (try simp only [pA, pZ, pS])
      refine tk 19 hHeld ?_
      (try simp only [pA, pZ, pS])
      refine tk 20 hHeld ?_
      (try simp only [pA, pZ, pS])
      refine tk 21 hHeld ?_
      (try simp only [pA, pZ, pS])
      refine tk 22 hHeld ?_
      (try simp only [pA, pZ, pS])
      refine tk 23 hHeld ?_
      (try simp only [pA, pZ, pS])
      refine tk 24 hHeld ?_
      (try simp only [pA, pZ, pS])
      refine tk 25 hHeld ?_
      (try simp only [pA, pZ, pS])
      refine tk 26 hHeld ?_
      (try simp only [pA, pZ, pS])
      refine tk 27 hHeld ?_
      (try simp only [pA, pZ, pS])
      refine tk 28 hHeld ?_
      (try simp only [pA, pZ, pS])
      refine tk 29 hHeld ?_
      (try simp only [pA, pZ, pS])
      refine tk 30 hHeld ?_
      (try simp only [pA, pZ, pS])
      refine tk 31 hHeld ?_
      (try simp only [pA, pZ, pS])
      refine tk 32 hHeld ?_
      (try simp only [pA, pZ, pS])
      refine tk 33 hHeld ?_
      (try simp only [pA, pZ, pS])
      refine tk 34 hHeld ?_
      (try simp only [pA, pZ, pS])
      refine wpAnyH_done (by kernel_rfl) ?_ _
      refine NoPanic.normal ?_
      obtain ⟨y0, y1, y2, y3, y4, y5, y6, y7⟩ := hHeld
      have hBz : Below w.heap.size w w' := (B3 _ _ _).trans (hb'.mono (by simp; omega))
      have hE := hidSF (hv0.below hBz)
      clear hb' hv0
      go_wp2
      go_quiet (first | (go_at_call 99; refine Calls.quiet_of_same (hF.out _ (hE.out.below ?_)); exact below_drewN' (Below.refl _ _)) | (go_at_call 155; refine Calls.quiet_of_same (hDp.out _ (hE.out.below ?_)); exact below_drewN' (Below.refl _ _)))
      go_wp2
      go_ret
      exact ⟨ret_bool (by simp; omega), below_drewN' hBz⟩
    · go_simp
      (go_at_call 154; refine (l2Ariths_any _).mono ?_; rintro e' w' ⟨rfl, rfl⟩)
      (try go_wp2_with fail)
      refine hK.out _ _ ?hS131 (fun hHeld => ?_)
      case hS131 => ((try dsimp only); (go_split_ands; refine ⟨?_, ?_, ?_, ?_, ?_, ?_, ?_, ?_⟩ <;> first | (simp [go_sem]; done) | exact cell_below hb' (by assumption)))
      clear hK K
      (first | simp only [pA, pZ, pS] | simp only [pN] | skip)
      refine wpAnyH_ready (rs := [3]) (by kernel_rfl) (by simp) (AllReadyH.cons (List.getElem?_toArray.trans rfl) (fun K hK => ?_) AllReadyH.nil)
      go_simp
      refine hK.out _ _ ?hS132 (fun hHeld => ?_)
      case hS132 => ((try dsimp only); (go_split_ands; refine ⟨?_, ?_, ?_, ?_, ?_, ?_, ?_, ?_⟩ <;> first | (simp [go_sem]; done) | exact cell_below hb' (by assumption)))
      clear hK K
      (first | simp only [pA, pZ, pS] | simp only [pN] | skip)
      refine wpAnyH_ready (rs := [5]) (by kernel_rfl) (by simp) (AllReadyH.cons (List.getElem?_toArray.trans rfl) (fun K hK => ?_) AllReadyH.nil)
      go_simp
      (go_at_call 98; refine (hIs.out _ _ ?_).mono ?_; (first | exact ar_new _ _ _ (by simp) | exact ar_old _ _ _ _ (by simp)); rintro e' w' ⟨rfl, rfl⟩)
      (try go_wp2_with fail)
      refine hK.out _ _ ?hS133 (fun hHeld => ?_)
      case hS133 => ((try dsimp only); (go_split_ands; refine ⟨?_, ?_, ?_, ?_, ?_, ?_, ?_, ?_⟩ <;> first | (simp [go_sem]; done) | exact cell_below hb' (by assumption)))
      clear hK K
      (first | simp only [pA, pZ, pS] | simp only [pN] | skip)
      refine tk 6 hHeld ?_
      (try simp only [pA, pZ, pS])
      refine tk 7 hHeld ?_
      (try simp only [pA, pZ, pS])
      refine tk 8 hHeld ?_
      (try simp only [pA, pZ, pS])
      refine tk 9 hHeld ?_
      (try simp only [pA, pZ, pS])
      refine tk 10 hHeld ?_
      (try simp only [pA, pZ, pS])
      refine tk 11 hHeld ?_
      (try simp only [pA, pZ, pS])
      refine tk 12 hHeld ?_
      (try simp only [pA, pZ, pS])
      refine tk 13 hHeld ?_
      (try simp only [pA, pZ, pS])
      refine tk 14 hHeld ?_
      (try simp only [pA, pZ, pS])
      refine wpAnyH_ready (rs := [15]) (by kernel_rfl) (by simp) (AllReadyH.cons (List.getElem?_toArray.trans rfl) (fun K hK => ?_) AllReadyH.nil)
      go_simp
      (go_at_call 153; refine (hZ.out _).mono ?_; rintro e' w' ⟨rfl, hb'⟩)
      (try go_wp2_with fail)
      refine hK.out _ _ ?hS134 (fun hHeld => ?_)
      case hS134 => ((try dsimp only); (go_split_ands; refine ⟨?_, ?_, ?_, ?_, ?_, ?_, ?_, ?_⟩ <;> first | (simp [go_sem]; done) | exact cell_below hb' (by assumption)))
      clear hK K
      (first | simp only [pA, pZ, pS] | simp only [pN] | skip)
      refine tk 16 hHeld ?_
      (try simp only [pA, pZ, pS])
      refine tk 17 hHeld ?_
      (try simp only [pA, pZ, pS])
      refine tk 18 hHeld ?_
      (try simp only [pA, pZ, pS])
      refine tk 19 hHeld ?_
      (try simp only [pA, pZ, pS])
      refine tk 20 hHeld ?_
      (try simp only [pA, pZ, pS])
      refine tk 21 hHeld ?_
      (try simp only [pA, pZ, pS])
      refine tk 22 hHeld ?_
      (try simp only [pA, pZ, pS])
      refine tk 23 hHeld ?_
      (try simp only [pA, pZ, pS])
      refine tk 24 hHeld ?_
      (try simp only [pA, pZ, pS])
      refine tk 25 hHeld ?_
      (try simp only [pA, pZ, pS])
      refine tk 26 hHeld ?_
      (try simp only [pA, pZ, pS])
      refine tk 27 hHeld ?_
      (try simp only [pA, pZ, pS])
      refine tk 28 hHeld ?_
      (try simp only [pA, pZ, pS])
      refine tk 29 hHeld ?_
      (try simp only [pA, pZ, pS])
      refine tk 30 hHeld ?_
      (try simp only [pA, pZ, pS])
      refine tk 31 hHeld ?_
      (try simp only [pA, pZ, pS])
      refine tk 32 hHeld ?_
      (try simp only [pA, pZ, pS])
      refine tk 33 hHeld ?_
      (try simp only [pA, pZ, pS])
      refine tk 34 hHeld ?_
      (try simp only [pA, pZ, pS])
      refine wpAnyH_done (by kernel_rfl) ?_ _
      refine NoPanic.normal ?_
      obtain ⟨y0, y1, y2, y3, y4, y5, y6, y7⟩ := hHeld
      have hBz : Below w.heap.size w w' := (B3 _ _ _).trans (hb'.mono (by simp; omega))
      have hE := hidSF (hv0.below hBz)
      clear hb' hv0
      go_wp2
      go_quiet (first | (go_at_call 99; refine Calls.quiet_of_same (hF.out _ (hE.out.below ?_)); exact below_drewN' (Below.refl _ _)) | (go_at_call 155; refine Calls.quiet_of_same (hDp.out _ (hE.out.below ?_)); exact below_drewN' (Below.refl _ _)))
      go_wp2
      go_ret
      exact ⟨ret_bool (by simp; omega), below_drewN' hBz⟩
  · go_simp
    (go_at_call 154; refine (l2Ariths_any _).mono ?_; rintro e' w' ⟨rfl, rfl⟩)
    (try go_wp2_with fail)
    refine hK.out _ _ ?hS135 (fun hHeld => ?_)
    case hS135 => ((try dsimp only); (go_split_ands; refine ⟨?_, ?_, ?_, ?_, ?_, ?_, ?_, ?_⟩ <;> first | (simp [go_sem]; done) | exact cell_below hb' (by assumption)))
    clear hK K
    (first | simp only [pA, pZ, pS] | simp only [pN] | skip)
    refine wpAnyH_ready (rs := [2]) (by kernel_rfl) (by simp) (AllReadyH.cons (List.getElem?_toArray.trans rfl) (fun K hK => ?_) AllReadyH.nil)
    go_simp
    refine hK.out _ _ ?hS136 (fun hHeld => ?_)
    case hS136 => ((try dsimp only); (go_split_ands; refine ⟨?_, ?_, ?_, ?_, ?_, ?_, ?_, ?_⟩ <;> first | (simp [go_sem]; done) | exact cell_below hb' (by assumption)))
    clear hK K
    (first | simp only [pA, pZ, pS] | simp only [pN] | skip)
    refine wpAnyH_ready (rs := [3]) (by kernel_rfl) (by simp) (AllReadyH.cons (List.getElem?_toArray.trans rfl) (fun K hK => ?_) AllReadyH.nil)
    go_simp
    refine hK.out _ _ ?hS137 (fun hHeld => ?_)
    case hS137 => ((try dsimp only); (go_split_ands; refine ⟨?_, ?_, ?_, ?_, ?_, ?_, ?_, ?_⟩ <;> first | (simp [go_sem]; done) | exact cell_below hb' (by assumption)))
    clear hK K
    (first | simp only [pA, pZ, pS] | simp only [pN] | skip)
    refine wpAnyH_ready (rs := [5]) (by kernel_rfl) (by simp) (AllReadyH.cons (List.getElem?_toArray.trans rfl) (fun K hK => ?_) AllReadyH.nil)
    go_simp
    (go_at_call 98; refine (hIs.out _ _ ?_).mono ?_; (first | exact ar_new _ _ _ (by simp) | exact ar_old _ _ _ _ (by simp)); rintro e' w' ⟨rfl, rfl⟩)
    (try go_wp2_with fail)
    refine hK.out _ _ ?hS138 (fun hHeld => ?_)
    case hS138 => ((try dsimp only); (go_split_ands; refine ⟨?_, ?_, ?_, ?_, ?_, ?_, ?_, ?_⟩ <;> first | (simp [go_sem]; done) | exact cell_below hb' (by assumption)))
    clear hK K
    (first | simp only [pA, pZ, pS] | simp only [pN] | skip)
    refine tk 6 hHeld ?_
    (try simp only [pA, pZ, pS])
    refine tk 7 hHeld ?_
    (try simp only [pA, pZ, pS])
    refine tk 8 hHeld ?_
    (try simp only [pA, pZ, pS])
    refine tk 9 hHeld ?_
    (try simp only [pA, pZ, pS])
    refine tk 10 hHeld ?_
    (try simp only [pA, pZ, pS])
    refine tk 11 hHeld ?_
    (try simp only [pA, pZ, pS])
    refine tk 12 hHeld ?_
    (try simp only [pA, pZ, pS])
    refine tk 13 hHeld ?_
    (try simp only [pA, pZ, pS])
    refine tk 14 hHeld ?_
    (try simp only [pA, pZ, pS])
    refine wpAnyH_ready (rs := [15]) (by kernel_rfl) (by simp) (AllReadyH.cons (List.getElem?_toArray.trans rfl) (fun K hK => ?_) AllReadyH.nil)
    go_simp
    (go_at_call 153; refine (hZ.out _).mono ?_; rintro e' w' ⟨rfl, hb'⟩)
    (try go_wp2_with fail)
    refine hK.out _ _ ?hS139 (fun hHeld => ?_)
    case hS139 => ((try dsimp only); (go_split_ands; refine ⟨?_, ?_, ?_, ?_, ?_, ?_, ?_, ?_⟩ <;> first | (simp [go_sem]; done) | exact cell_below hb' (by assumption)))
    clear hK K
    (first | simp only [pA, pZ, pS] | simp only [pN] | skip)
    refine tk 16 hHeld ?_
    (try simp only [pA, pZ, pS])
    refine tk 17 hHeld ?_
    (try simp only [pA, pZ, pS])
    refine tk 18 hHeld ?_
    (try simp only [pA, pZ, pS])
    refine tk 19 hHeld ?_
    (try simp only [pA, pZ, pS])
    refine tk 20 hHeld ?_
    (try simp only [pA, pZ, pS])
    refine tk 21 hHeld ?_
    (try simp only [pA, pZ, pS])
    refine tk 22 hHeld ?_
    (try simp only [pA, pZ, pS])
    refine tk 23 hHeld ?_
    (try simp only [pA, pZ, pS])
    refine tk 24 hHeld ?_
    (try simp only [pA, pZ, pS])
    refine tk 25 hHeld ?_
    (try simp only [pA, pZ, pS])
    refine tk 26 hHeld ?_
    (try simp only [pA, pZ, pS])
    refine tk 27 hHeld ?_
    (try simp only [pA, pZ, pS])
    refine tk 28 hHeld ?_
    (try simp only [pA, pZ, pS])
    refine tk 29 hHeld ?_
    (try simp only [pA, pZ, pS])
    refine tk 30 hHeld ?_
    (try simp only [pA, pZ, pS])
    refine tk 31 hHeld ?_
    (try simp only [pA, pZ, pS])
    refine tk 32 hHeld ?_
    (try simp only [pA, pZ, pS])
    refine tk 33 hHeld ?_
    (try simp only [pA, pZ, pS])
    refine tk 34 hHeld ?_
    (try simp only [pA, pZ, pS])
    refine wpAnyH_done (by kernel_rfl) ?_ _
    refine NoPanic.normal ?_
    obtain ⟨y0, y1, y2, y3, y4, y5, y6, y7⟩ := hHeld
    have hBz : Below w.heap.size w w' := (B3 _ _ _).trans (hb'.mono (by simp; omega))
    have hE := hidSF (hv0.below hBz)
    clear hb' hv0
    go_wp2
    go_quiet (first | (go_at_call 99; refine Calls.quiet_of_same (hF.out _ (hE.out.below ?_)); exact below_drewN' (Below.refl _ _)) | (go_at_call 155; refine Calls.quiet_of_same (hDp.out _ (hE.out.below ?_)); exact below_drewN' (Below.refl _ _)))
    go_wp2
    go_ret
    exact ⟨ret_bool (by simp; omega), below_drewN' hBz⟩
end Go.Proofs.YtgkoiojelckblaaGreatDoor
