/-
  OUR OWN TEXT. Tx14, Tx15, Av, Tx17, one behind the other.
-/
import Derived.Test.YtgkoiojelckblaaGreatDoorKau
import Derived.Test.YtgkoiojelckblaaGreatDoorOgm
import Derived.Deep.DeepCutAuto
import Derived.Lib.ConvBytes
import Derived.Lib.AtoiErrMem
namespace Go.Proofs.YtgkoiojelckblaaGreatDoor
open Go.RowKit
attribute [local go_sem ↓] Go.wp_at_zero Go.wp_at_succ

theorem lift_bel {P : World → Prop} {w u : World} (hu : Below w.heap.size w u) (h : ∀ wt, Below w.heap.size w wt → P wt) : P u := h u hu
theorem cat8 (x : UInt8) (a b : Bs) : ({ data := #[40] } : ByteArray) ++ mkS [x] ++ { data := #[32] } ++ mkS a ++ { data := #[32] } ++ mkS b ++ { data := #[41] } = mkS (40 :: x :: 32 :: (a ++ 32 :: (b ++ [41]))) := by
  have e : ∀ x : UInt8, ({ data := #[x] } : ByteArray) = mkS [x] := fun _ => rfl
  rw [e, e, e, mkS_app, mkS_app, mkS_app, mkS_app, mkS_app, mkS_app]
  simp

set_option maxHeartbeats 3200000 in
theorem lExpr_step {es : List Ex} {S : List Sp} (hT : ExT es S) (a : Option Addr) (c : Nat) (q : Option Nat) (n : Nat)
    (IH : ∀ (i : Nat) (w : World), ExsAt q w a es → i < n → i < es.length → Calls Tryz.prog 25 #[.slice a es.length c, .int .i64 (i : Int)] w fun e w' => e = .returned (.string (mkS (txE n es i))) ∧ Below w.heap.size w w')
    (i : Nat) (w : World) (hE : ExsAt q w a es) (hin : i < n + 1) (hi : i < es.length) : Calls Tryz.prog 25 #[.slice a es.length c, .int .i64 (i : Int)] w fun e w' => e = .returned (.string (mkS (txE (n + 1) es i))) ∧ Below w.heap.size w w' := by
  obtain ⟨e, he⟩ : ∃ e, es[i]? = some e := ⟨es[i], by simp [hi]⟩
  obtain ⟨b, o, rfl, _, d0, d1, d2, d3, d4, d5, d6, d7⟩ := hE.get he
  have hX := txE_one n es i e he
  have hn := hT.2.2.2 e (List.mem_of_getElem? he)
  have HI := hidX IH
  have i0 : (0 : Int) ≤ (i : Int) := by omega
  have i1 : (i : Int) < (es.length : Int) := by omega
  rcases hT.kind he with ⟨k, hv⟩ | ⟨k, hv⟩ | ⟨k, _, pa, pb, ea, eb, hpa, hpb⟩
  · have HX : Hid (txV e.val = txE (n + 1) es i) := show _ = _ from by rw [hX, if_neg (by omega), if_neg (by omega)]
    rw [k] at d0
    clear hX k he IH hE
    go_enter Tryz.func25, Tryz.ntmps25
    go_upto_region 4 with fail
    refine lift_alloc ?_
    intro wb hWb hqb
    have c3 : wb.cell? ⟨w.heap.size, 3, none⟩ = some (.int .i64 e.val.kind) := by simp [World.cell?, hqb]
    have c4 : wb.cell? ⟨w.heap.size, 4, none⟩ = some (.int .i64 e.val.num) := by simp [World.cell?, hqb]
    have c5 : wb.cell? ⟨w.heap.size, 5, none⟩ = some (.string e.val.sym) := by simp [World.cell?, hqb]
    clear hqb
    go_wp2_with (go_at_call 23; refine (l2Val_txt e.val _ hn).mono ?_; rintro e' w1 ⟨rfl, hb1⟩)
    go_ret
    exact ⟨ret_txt HX.out, hWb.trans (hb1.mono hWb.size)⟩
  · have HX : Hid (63 :: bsOf e.var = txE (n + 1) es i) := show _ = _ from by rw [hX, if_pos k]
    have hs : ¬ 9223372036854775807 < ({ data := #[63] } : ByteArray).size + e.var.size := by
      have := gSym_sz hv
      have : ({ data := #[63] } : ByteArray).size = 1 := rfl
      omega
    rw [k] at d0
    clear hX k he IH hE
    have hA : ∀ o, Below w.heap.size w (w.alloc o) := fun o => (Below.refl _ _).alloc (Nat.le_refl _) _
    go_enter Tryz.func25, Tryz.ntmps25
    go_wp2
    go_ret
    refine ⟨?_, hA _⟩
    rw [← HX.out]
    exact congrArg (fun x => Ending.returned (.string x)) (mkS_app' e.var [63])
  · have hla : pa < es.length := by omega
    have hlb : pb < es.length := by omega
    have sA := txE_short hT n pa hla
    have sB := txE_short hT n pb hlb
    obtain ⟨A, hAe⟩ : ∃ A, A = txE n es pa := ⟨_, rfl⟩
    obtain ⟨B, hBe⟩ : ∃ B, B = txE n es pb := ⟨_, rfl⟩
    have HX : Hid (40 :: UInt8.ofNat e.op.toNat :: 32 :: (A ++ 32 :: (B ++ [41])) = txE (n + 1) es i) := show _ = _ from by rw [hX, if_neg (by omega), if_pos k, ea, eb, hAe, hBe]; rfl
    have HA : Hid (∀ w', ExsAt q w' (some ⟨b, o, none⟩) es → Calls Tryz.prog 25 #[.slice (some ⟨b, o, none⟩) es.length c, .int .i64 (pa : Int)] w' fun e w'' => e = .returned (.string (mkS A)) ∧ Below w'.heap.size w' w'') := fun w' h => by rw [hAe]; exact HI.out pa w' h (by omega) hla
    have HB : Hid (∀ w', ExsAt q w' (some ⟨b, o, none⟩) es → Calls Tryz.prog 25 #[.slice (some ⟨b, o, none⟩) es.length c, .int .i64 (pb : Int)] w' fun e w'' => e = .returned (.string (mkS B)) ∧ Below w'.heap.size w' w'') := fun w' h => by rw [hBe]; exact HI.out pb w' h (by omega) hlb
    rw [← hAe] at sA
    rw [← hBe] at sB
    rw [k] at d0
    rw [ea] at d6
    rw [eb] at d7
    clear hX k he ea eb hAe hBe IH HI hn
    go_enter Tryz.func25, Tryz.ntmps25
    go_upto_region 7 with fail
    refine lift_alloc ?_
    intro wb hWb hqb
    have c1 : wb.cell? ⟨w.heap.size, 1, none⟩ = some (.int .u8 e.op) := by simp [World.cell?, hqb]
    have c6 : wb.cell? ⟨w.heap.size, 6, none⟩ = some (.int .i64 (pa : Int)) := by simp [World.cell?, hqb]
    have c7 : wb.cell? ⟨w.heap.size, 7, none⟩ = some (.int .i64 (pb : Int)) := by simp [World.cell?, hqb]
    have HE := hidX (hE.below hWb)
    clear hqb d0 d1 d2 d3 d4 d5 d6 d7 hE
    refine wp_region_noPanic ?_
    refine wp_region_held_drew (S := (fun w' => w'.cell? ⟨w.heap.size, 1, none⟩ = some (.int .u8 e.op) ∧ w'.cell? ⟨w.heap.size, 6, none⟩ = some (.int .i64 (pa : Int)) ∧ w'.cell? ⟨w.heap.size, 7, none⟩ = some (.int .i64 (pb : Int)))) (by kernel_rfl) ?_ (fun hHeld => ?_)
    · (try dsimp only)
      exact ⟨c1, c6, c7⟩
    refine lift_bel (w := wb) (Below.refl _ _).drew ?_
    intro w0 hW0
    replace hHeld : (fun w' => w'.cell? ⟨w.heap.size, 1, none⟩ = some (.int .u8 e.op) ∧ w'.cell? ⟨w.heap.size, 6, none⟩ = some (.int .i64 (pa : Int)) ∧ w'.cell? ⟨w.heap.size, 7, none⟩ = some (.int .i64 (pb : Int))) w0 := ⟨cell_below hW0 c1, cell_below hW0 c6, cell_below hW0 c7⟩
    have B0 := hidX hW0
    have Sw0 := hidX (fun w' (h : Below w0.heap.size w0 w') => (show (fun w' => w'.cell? ⟨w.heap.size, 1, none⟩ = some (.int .u8 e.op) ∧ w'.cell? ⟨w.heap.size, 6, none⟩ = some (.int .i64 (pa : Int)) ∧ w'.cell? ⟨w.heap.size, 7, none⟩ = some (.int .i64 (pb : Int))) w' from ⟨cell_below h hHeld.1, cell_below h hHeld.2.1, cell_below h hHeld.2.2⟩))
    refine tk 0 hHeld ?_
    (try simp only [pA, pZ, pS])
    refine tk 1 hHeld ?_
    (try simp only [pA, pZ, pS])
    refine tk 6 hHeld ?_
    (try simp only [pA, pZ, pS])
    refine tk 7 hHeld ?_
    (try simp only [pA, pZ, pS])
    refine tk 8 hHeld ?_
    (try simp only [pA, pZ, pS])
    refine tk 12 hHeld ?_
    (try simp only [pA, pZ, pS])
    refine tk 13 hHeld ?_
    (try simp only [pA, pZ, pS])
    refine tk 14 hHeld ?_
    (try simp only [pA, pZ, pS])
    refine wpAnyH_ready (rs := [2, 9]) (by kernel_rfl) (by simp) (AllReadyH.cons (List.getElem?_toArray.trans rfl) (fun K hK => ?_) (AllReadyH.cons (List.getElem?_toArray.trans rfl) (fun K hK => ?_) AllReadyH.nil))
    · go_simp
      refine hK.out _ _ ?hS1 (fun hHeld' => ?rest1)
      case hS1 => ((try dsimp only); exact ⟨cell_below ((Below.refl _ _).alloc (Nat.le_refl _) _) hHeld.1, cell_below ((Below.refl _ _).alloc (Nat.le_refl _) _) hHeld.2.1, cell_below ((Below.refl _ _).alloc (Nat.le_refl _) _) hHeld.2.2⟩)
      clear hK K
      (first | simp only [pA, pZ, pS] | simp only [pN] | skip)
      clear hHeld
      have hHeld := hHeld'
      clear hHeld'
      refine lift_alloc ?_
      intro w1 hW1 hq1
      have b1 : w1.cell? ⟨w0.heap.size, 0, none⟩ = some (.int .u8 e.op) := by simp [World.cell?, hq1]
      have B1 := hidX (B0.out.trans (hW1.mono B0.out.size))
      replace hHeld : (fun w' => w'.cell? ⟨w.heap.size, 1, none⟩ = some (.int .u8 e.op) ∧ w'.cell? ⟨w.heap.size, 6, none⟩ = some (.int .i64 (pa : Int)) ∧ w'.cell? ⟨w.heap.size, 7, none⟩ = some (.int .i64 (pb : Int))) w1 := Sw0.out w1 hW1
      have Sw1 := hidX (fun w' (h : Below w1.heap.size w1 w') => (show (fun w' => w'.cell? ⟨w.heap.size, 1, none⟩ = some (.int .u8 e.op) ∧ w'.cell? ⟨w.heap.size, 6, none⟩ = some (.int .i64 (pa : Int)) ∧ w'.cell? ⟨w.heap.size, 7, none⟩ = some (.int .i64 (pb : Int))) w' from ⟨cell_below h hHeld.1, cell_below h hHeld.2.1, cell_below h hHeld.2.2⟩))
      clear hq1
      refine wpAnyH_ready (rs := [3, 9]) (by kernel_rfl) (by simp) (AllReadyH.cons (List.getElem?_toArray.trans rfl) (fun K hK => ?_) (AllReadyH.cons (List.getElem?_toArray.trans rfl) (fun K hK => ?_) AllReadyH.nil))
      · have hcv2 := run_convT e.op w1 w0.heap.size b1
        go_simp
        refine hK.out _ _ ?hS2 (fun hHeld' => ?rest2)
        case hS2 => ((try dsimp only); exact hHeld)
        clear hK K
        (first | simp only [pA, pZ, pS] | simp only [pN] | skip)
        clear hHeld
        have hHeld := hHeld'
        clear hHeld'
        clear hcv2
        refine tk 4 hHeld ?_ (hy := fun w' _ => by go_simp; rw [if_neg (by (repeat (first | rw [ByteArray.size_append] | rw [mkS_size] | rw [sz_one] | rw [List.length_singleton])); omega)])
        (try simp only [pA, pZ, pS])
        refine tk 5 hHeld ?_ (hy := fun w' _ => by go_simp; rw [if_neg (by (repeat (first | rw [ByteArray.size_append] | rw [mkS_size] | rw [sz_one] | rw [List.length_singleton])); omega)])
        (try simp only [pA, pZ, pS])
        refine wpAnyH_ready (rs := [9]) (by kernel_rfl) (by simp) (AllReadyH.cons (List.getElem?_toArray.trans rfl) (fun K hK => ?_) AllReadyH.nil)
        go_simp
        go_at_call 25; refine (HA.out w1 (HE.out.below B1.out)).mono ?_; rintro e' w3 ⟨rfl, hb3⟩
        (try go_wp2_with fail)
        refine hK.out _ _ ?hS3 (fun hHeld' => ?rest3)
        case hS3 => ((try dsimp only); exact ⟨cell_below hb3 hHeld.1, cell_below hb3 hHeld.2.1, cell_below hb3 hHeld.2.2⟩)
        clear hK K
        (first | simp only [pA, pZ, pS] | simp only [pN] | skip)
        clear hHeld
        have hHeld := hHeld'
        clear hHeld'
        have B3 := hidX (B1.out.trans (hb3.mono B1.out.size))
        have Sw3 := hidX (fun w' (h : Below w3.heap.size w3 w') => (show (fun w' => w'.cell? ⟨w.heap.size, 1, none⟩ = some (.int .u8 e.op) ∧ w'.cell? ⟨w.heap.size, 6, none⟩ = some (.int .i64 (pa : Int)) ∧ w'.cell? ⟨w.heap.size, 7, none⟩ = some (.int .i64 (pb : Int))) w' from ⟨cell_below h hHeld.1, cell_below h hHeld.2.1, cell_below h hHeld.2.2⟩))
        have b3 := cell_below hb3 b1
        refine tk 10 hHeld ?_ (hy := fun w' _ => by go_simp; rw [if_neg (by (repeat (first | rw [ByteArray.size_append] | rw [mkS_size] | rw [sz_one] | rw [List.length_singleton])); omega)])
        (try simp only [pA, pZ, pS])
        refine tk 11 hHeld ?_ (hy := fun w' _ => by go_simp; rw [if_neg (by (repeat (first | rw [ByteArray.size_append] | rw [mkS_size] | rw [sz_one] | rw [List.length_singleton])); omega)])
        (try simp only [pA, pZ, pS])
        refine wpAnyH_ready (rs := [15]) (by kernel_rfl) (by simp) (AllReadyH.cons (List.getElem?_toArray.trans rfl) (fun K hK => ?_) AllReadyH.nil)
        go_simp
        go_at_call 25; refine (HB.out w3 (HE.out.below B3.out)).mono ?_; rintro e' w4 ⟨rfl, hb4⟩
        (try go_wp2_with fail)
        refine hK.out _ _ ?hS4 (fun hHeld' => ?rest4)
        case hS4 => ((try dsimp only); exact ⟨cell_below hb4 hHeld.1, cell_below hb4 hHeld.2.1, cell_below hb4 hHeld.2.2⟩)
        clear hK K
        (first | simp only [pA, pZ, pS] | simp only [pN] | skip)
        clear hHeld
        have hHeld := hHeld'
        clear hHeld'
        have B4 := hidX (B3.out.trans (hb4.mono B3.out.size))
        have Sw4 := hidX (fun w' (h : Below w4.heap.size w4 w') => (show (fun w' => w'.cell? ⟨w.heap.size, 1, none⟩ = some (.int .u8 e.op) ∧ w'.cell? ⟨w.heap.size, 6, none⟩ = some (.int .i64 (pa : Int)) ∧ w'.cell? ⟨w.heap.size, 7, none⟩ = some (.int .i64 (pb : Int))) w' from ⟨cell_below h hHeld.1, cell_below h hHeld.2.1, cell_below h hHeld.2.2⟩))
        have b4 := cell_below hb4 b3
        refine tk 16 hHeld ?_ (hy := fun w' _ => by go_simp; rw [if_neg (by (repeat (first | rw [ByteArray.size_append] | rw [mkS_size] | rw [sz_one] | rw [List.length_singleton])); omega)])
        (try simp only [pA, pZ, pS])
        refine tk 17 hHeld ?_ (hy := fun w' _ => by go_simp; rw [if_neg (by (repeat (first | rw [ByteArray.size_append] | rw [mkS_size] | rw [sz_one] | rw [List.length_singleton])); omega)])
        (try simp only [pA, pZ, pS])
        refine tk 18 hHeld ?_
        (try simp only [pA, pZ, pS])
        refine wpAnyH_done (by kernel_rfl) ?_ _
        refine NoPanic.normal ?_
        go_wp2
        go_ret
        refine ⟨?_, hWb.trans (B4.out.mono hWb.size)⟩
        rw [← HX.out]
        exact congrArg (fun x => Ending.returned (.string x)) (cat8 _ A B)
      · go_simp
        go_at_call 25; refine (HA.out w1 (HE.out.below B1.out)).mono ?_; rintro e' w5 ⟨rfl, hb5⟩
        (try go_wp2_with fail)
        refine hK.out _ _ ?hS5 (fun hHeld' => ?rest5)
        case hS5 => ((try dsimp only); exact ⟨cell_below hb5 hHeld.1, cell_below hb5 hHeld.2.1, cell_below hb5 hHeld.2.2⟩)
        clear hK K
        (first | simp only [pA, pZ, pS] | simp only [pN] | skip)
        clear hHeld
        have hHeld := hHeld'
        clear hHeld'
        have B5 := hidX (B1.out.trans (hb5.mono B1.out.size))
        have Sw5 := hidX (fun w' (h : Below w5.heap.size w5 w') => (show (fun w' => w'.cell? ⟨w.heap.size, 1, none⟩ = some (.int .u8 e.op) ∧ w'.cell? ⟨w.heap.size, 6, none⟩ = some (.int .i64 (pa : Int)) ∧ w'.cell? ⟨w.heap.size, 7, none⟩ = some (.int .i64 (pb : Int))) w' from ⟨cell_below h hHeld.1, cell_below h hHeld.2.1, cell_below h hHeld.2.2⟩))
        have b5 := cell_below hb5 b1
        refine wpAnyH_ready (rs := [3, 15]) (by kernel_rfl) (by simp) (AllReadyH.cons (List.getElem?_toArray.trans rfl) (fun K hK => ?_) (AllReadyH.cons (List.getElem?_toArray.trans rfl) (fun K hK => ?_) AllReadyH.nil))
        · have hcv6 := run_convT e.op w5 w0.heap.size b5
          go_simp
          refine hK.out _ _ ?hS6 (fun hHeld' => ?rest6)
          case hS6 => ((try dsimp only); exact hHeld)
          clear hK K
          (first | simp only [pA, pZ, pS] | simp only [pN] | skip)
          clear hHeld
          have hHeld := hHeld'
          clear hHeld'
          clear hcv6
          refine tk 4 hHeld ?_ (hy := fun w' _ => by go_simp; rw [if_neg (by (repeat (first | rw [ByteArray.size_append] | rw [mkS_size] | rw [sz_one] | rw [List.length_singleton])); omega)])
          (try simp only [pA, pZ, pS])
          refine tk 5 hHeld ?_ (hy := fun w' _ => by go_simp; rw [if_neg (by (repeat (first | rw [ByteArray.size_append] | rw [mkS_size] | rw [sz_one] | rw [List.length_singleton])); omega)])
          (try simp only [pA, pZ, pS])
          refine tk 10 hHeld ?_ (hy := fun w' _ => by go_simp; rw [if_neg (by (repeat (first | rw [ByteArray.size_append] | rw [mkS_size] | rw [sz_one] | rw [List.length_singleton])); omega)])
          (try simp only [pA, pZ, pS])
          refine tk 11 hHeld ?_ (hy := fun w' _ => by go_simp; rw [if_neg (by (repeat (first | rw [ByteArray.size_append] | rw [mkS_size] | rw [sz_one] | rw [List.length_singleton])); omega)])
          (try simp only [pA, pZ, pS])
          refine wpAnyH_ready (rs := [15]) (by kernel_rfl) (by simp) (AllReadyH.cons (List.getElem?_toArray.trans rfl) (fun K hK => ?_) AllReadyH.nil)
          go_simp
          go_at_call 25; refine (HB.out w5 (HE.out.below B5.out)).mono ?_; rintro e' w7 ⟨rfl, hb7⟩
          (try go_wp2_with fail)
          refine hK.out _ _ ?hS7 (fun hHeld' => ?rest7)
          case hS7 => ((try dsimp only); exact ⟨cell_below hb7 hHeld.1, cell_below hb7 hHeld.2.1, cell_below hb7 hHeld.2.2⟩)
          clear hK K
          (first | simp only [pA, pZ, pS] | simp only [pN] | skip)
          clear hHeld
          have hHeld := hHeld'
          clear hHeld'
          have B7 := hidX (B5.out.trans (hb7.mono B5.out.size))
          have Sw7 := hidX (fun w' (h : Below w7.heap.size w7 w') => (show (fun w' => w'.cell? ⟨w.heap.size, 1, none⟩ = some (.int .u8 e.op) ∧ w'.cell? ⟨w.heap.size, 6, none⟩ = some (.int .i64 (pa : Int)) ∧ w'.cell? ⟨w.heap.size, 7, none⟩ = some (.int .i64 (pb : Int))) w' from ⟨cell_below h hHeld.1, cell_below h hHeld.2.1, cell_below h hHeld.2.2⟩))
          have b7 := cell_below hb7 b5
          refine tk 16 hHeld ?_ (hy := fun w' _ => by go_simp; rw [if_neg (by (repeat (first | rw [ByteArray.size_append] | rw [mkS_size] | rw [sz_one] | rw [List.length_singleton])); omega)])
          (try simp only [pA, pZ, pS])
          refine tk 17 hHeld ?_ (hy := fun w' _ => by go_simp; rw [if_neg (by (repeat (first | rw [ByteArray.size_append] | rw [mkS_size] | rw [sz_one] | rw [List.length_singleton])); omega)])
          (try simp only [pA, pZ, pS])
          refine tk 18 hHeld ?_
          (try simp only [pA, pZ, pS])
          refine wpAnyH_done (by kernel_rfl) ?_ _
          refine NoPanic.normal ?_
          go_wp2
          go_ret
          refine ⟨?_, hWb.trans (B7.out.mono hWb.size)⟩
          rw [← HX.out]
          exact congrArg (fun x => Ending.returned (.string x)) (cat8 _ A B)
        · go_simp
          go_at_call 25; refine (HB.out w5 (HE.out.below B5.out)).mono ?_; rintro e' w8 ⟨rfl, hb8⟩
          (try go_wp2_with fail)
          refine hK.out _ _ ?hS8 (fun hHeld' => ?rest8)
          case hS8 => ((try dsimp only); exact ⟨cell_below hb8 hHeld.1, cell_below hb8 hHeld.2.1, cell_below hb8 hHeld.2.2⟩)
          clear hK K
          (first | simp only [pA, pZ, pS] | simp only [pN] | skip)
          clear hHeld
          have hHeld := hHeld'
          clear hHeld'
          have B8 := hidX (B5.out.trans (hb8.mono B5.out.size))
          have Sw8 := hidX (fun w' (h : Below w8.heap.size w8 w') => (show (fun w' => w'.cell? ⟨w.heap.size, 1, none⟩ = some (.int .u8 e.op) ∧ w'.cell? ⟨w.heap.size, 6, none⟩ = some (.int .i64 (pa : Int)) ∧ w'.cell? ⟨w.heap.size, 7, none⟩ = some (.int .i64 (pb : Int))) w' from ⟨cell_below h hHeld.1, cell_below h hHeld.2.1, cell_below h hHeld.2.2⟩))
          have b8 := cell_below hb8 b5
          refine wpAnyH_ready (rs := [3]) (by kernel_rfl) (by simp) (AllReadyH.cons (List.getElem?_toArray.trans rfl) (fun K hK => ?_) AllReadyH.nil)
          have hcv9 := run_convT e.op w8 w0.heap.size b8
          go_simp
          refine hK.out _ _ ?hS9 (fun hHeld' => ?rest9)
          case hS9 => ((try dsimp only); exact hHeld)
          clear hK K
          (first | simp only [pA, pZ, pS] | simp only [pN] | skip)
          clear hHeld
          have hHeld := hHeld'
          clear hHeld'
          clear hcv9
          refine tk 4 hHeld ?_ (hy := fun w' _ => by go_simp; rw [if_neg (by (repeat (first | rw [ByteArray.size_append] | rw [mkS_size] | rw [sz_one] | rw [List.length_singleton])); omega)])
          (try simp only [pA, pZ, pS])
          refine tk 5 hHeld ?_ (hy := fun w' _ => by go_simp; rw [if_neg (by (repeat (first | rw [ByteArray.size_append] | rw [mkS_size] | rw [sz_one] | rw [List.length_singleton])); omega)])
          (try simp only [pA, pZ, pS])
          refine tk 10 hHeld ?_ (hy := fun w' _ => by go_simp; rw [if_neg (by (repeat (first | rw [ByteArray.size_append] | rw [mkS_size] | rw [sz_one] | rw [List.length_singleton])); omega)])
          (try simp only [pA, pZ, pS])
          refine tk 11 hHeld ?_ (hy := fun w' _ => by go_simp; rw [if_neg (by (repeat (first | rw [ByteArray.size_append] | rw [mkS_size] | rw [sz_one] | rw [List.length_singleton])); omega)])
          (try simp only [pA, pZ, pS])
          refine tk 16 hHeld ?_ (hy := fun w' _ => by go_simp; rw [if_neg (by (repeat (first | rw [ByteArray.size_append] | rw [mkS_size] | rw [sz_one] | rw [List.length_singleton])); omega)])
          (try simp only [pA, pZ, pS])
          refine tk 17 hHeld ?_ (hy := fun w' _ => by go_simp; rw [if_neg (by (repeat (first | rw [ByteArray.size_append] | rw [mkS_size] | rw [sz_one] | rw [List.length_singleton])); omega)])
          (try simp only [pA, pZ, pS])
          refine tk 18 hHeld ?_
          (try simp only [pA, pZ, pS])
          refine wpAnyH_done (by kernel_rfl) ?_ _
          refine NoPanic.normal ?_
          go_wp2
          go_ret
          refine ⟨?_, hWb.trans (B8.out.mono hWb.size)⟩
          rw [← HX.out]
          exact congrArg (fun x => Ending.returned (.string x)) (cat8 _ A B)
    · go_simp
      go_at_call 25; refine (HA.out w0 (HE.out.below B0.out)).mono ?_; rintro e' w10 ⟨rfl, hb10⟩
      (try go_wp2_with fail)
      refine hK.out _ _ ?hS10 (fun hHeld' => ?rest10)
      case hS10 => ((try dsimp only); exact ⟨cell_below hb10 hHeld.1, cell_below hb10 hHeld.2.1, cell_below hb10 hHeld.2.2⟩)
      clear hK K
      (first | simp only [pA, pZ, pS] | simp only [pN] | skip)
      clear hHeld
      have hHeld := hHeld'
      clear hHeld'
      have B10 := hidX (B0.out.trans (hb10.mono B0.out.size))
      have Sw10 := hidX (fun w' (h : Below w10.heap.size w10 w') => (show (fun w' => w'.cell? ⟨w.heap.size, 1, none⟩ = some (.int .u8 e.op) ∧ w'.cell? ⟨w.heap.size, 6, none⟩ = some (.int .i64 (pa : Int)) ∧ w'.cell? ⟨w.heap.size, 7, none⟩ = some (.int .i64 (pb : Int))) w' from ⟨cell_below h hHeld.1, cell_below h hHeld.2.1, cell_below h hHeld.2.2⟩))
      refine wpAnyH_ready (rs := [2, 15]) (by kernel_rfl) (by simp) (AllReadyH.cons (List.getElem?_toArray.trans rfl) (fun K hK => ?_) (AllReadyH.cons (List.getElem?_toArray.trans rfl) (fun K hK => ?_) AllReadyH.nil))
      · go_simp
        refine hK.out _ _ ?hS11 (fun hHeld' => ?rest11)
        case hS11 => ((try dsimp only); exact ⟨cell_below ((Below.refl _ _).alloc (Nat.le_refl _) _) hHeld.1, cell_below ((Below.refl _ _).alloc (Nat.le_refl _) _) hHeld.2.1, cell_below ((Below.refl _ _).alloc (Nat.le_refl _) _) hHeld.2.2⟩)
        clear hK K
        (first | simp only [pA, pZ, pS] | simp only [pN] | skip)
        clear hHeld
        have hHeld := hHeld'
        clear hHeld'
        refine lift_alloc ?_
        intro w11 hW11 hq11
        have b11 : w11.cell? ⟨w10.heap.size, 0, none⟩ = some (.int .u8 e.op) := by simp [World.cell?, hq11]
        have B11 := hidX (B10.out.trans (hW11.mono B10.out.size))
        replace hHeld : (fun w' => w'.cell? ⟨w.heap.size, 1, none⟩ = some (.int .u8 e.op) ∧ w'.cell? ⟨w.heap.size, 6, none⟩ = some (.int .i64 (pa : Int)) ∧ w'.cell? ⟨w.heap.size, 7, none⟩ = some (.int .i64 (pb : Int))) w11 := Sw10.out w11 hW11
        have Sw11 := hidX (fun w' (h : Below w11.heap.size w11 w') => (show (fun w' => w'.cell? ⟨w.heap.size, 1, none⟩ = some (.int .u8 e.op) ∧ w'.cell? ⟨w.heap.size, 6, none⟩ = some (.int .i64 (pa : Int)) ∧ w'.cell? ⟨w.heap.size, 7, none⟩ = some (.int .i64 (pb : Int))) w' from ⟨cell_below h hHeld.1, cell_below h hHeld.2.1, cell_below h hHeld.2.2⟩))
        clear hq11
        refine wpAnyH_ready (rs := [3, 15]) (by kernel_rfl) (by simp) (AllReadyH.cons (List.getElem?_toArray.trans rfl) (fun K hK => ?_) (AllReadyH.cons (List.getElem?_toArray.trans rfl) (fun K hK => ?_) AllReadyH.nil))
        · have hcv12 := run_convT e.op w11 w10.heap.size b11
          go_simp
          refine hK.out _ _ ?hS12 (fun hHeld' => ?rest12)
          case hS12 => ((try dsimp only); exact hHeld)
          clear hK K
          (first | simp only [pA, pZ, pS] | simp only [pN] | skip)
          clear hHeld
          have hHeld := hHeld'
          clear hHeld'
          clear hcv12
          refine tk 4 hHeld ?_ (hy := fun w' _ => by go_simp; rw [if_neg (by (repeat (first | rw [ByteArray.size_append] | rw [mkS_size] | rw [sz_one] | rw [List.length_singleton])); omega)])
          (try simp only [pA, pZ, pS])
          refine tk 5 hHeld ?_ (hy := fun w' _ => by go_simp; rw [if_neg (by (repeat (first | rw [ByteArray.size_append] | rw [mkS_size] | rw [sz_one] | rw [List.length_singleton])); omega)])
          (try simp only [pA, pZ, pS])
          refine tk 10 hHeld ?_ (hy := fun w' _ => by go_simp; rw [if_neg (by (repeat (first | rw [ByteArray.size_append] | rw [mkS_size] | rw [sz_one] | rw [List.length_singleton])); omega)])
          (try simp only [pA, pZ, pS])
          refine tk 11 hHeld ?_ (hy := fun w' _ => by go_simp; rw [if_neg (by (repeat (first | rw [ByteArray.size_append] | rw [mkS_size] | rw [sz_one] | rw [List.length_singleton])); omega)])
          (try simp only [pA, pZ, pS])
          refine wpAnyH_ready (rs := [15]) (by kernel_rfl) (by simp) (AllReadyH.cons (List.getElem?_toArray.trans rfl) (fun K hK => ?_) AllReadyH.nil)
          go_simp
          go_at_call 25; refine (HB.out w11 (HE.out.below B11.out)).mono ?_; rintro e' w13 ⟨rfl, hb13⟩
          (try go_wp2_with fail)
          refine hK.out _ _ ?hS13 (fun hHeld' => ?rest13)
          case hS13 => ((try dsimp only); exact ⟨cell_below hb13 hHeld.1, cell_below hb13 hHeld.2.1, cell_below hb13 hHeld.2.2⟩)
          clear hK K
          (first | simp only [pA, pZ, pS] | simp only [pN] | skip)
          clear hHeld
          have hHeld := hHeld'
          clear hHeld'
          have B13 := hidX (B11.out.trans (hb13.mono B11.out.size))
          have Sw13 := hidX (fun w' (h : Below w13.heap.size w13 w') => (show (fun w' => w'.cell? ⟨w.heap.size, 1, none⟩ = some (.int .u8 e.op) ∧ w'.cell? ⟨w.heap.size, 6, none⟩ = some (.int .i64 (pa : Int)) ∧ w'.cell? ⟨w.heap.size, 7, none⟩ = some (.int .i64 (pb : Int))) w' from ⟨cell_below h hHeld.1, cell_below h hHeld.2.1, cell_below h hHeld.2.2⟩))
          have b13 := cell_below hb13 b11
          refine tk 16 hHeld ?_ (hy := fun w' _ => by go_simp; rw [if_neg (by (repeat (first | rw [ByteArray.size_append] | rw [mkS_size] | rw [sz_one] | rw [List.length_singleton])); omega)])
          (try simp only [pA, pZ, pS])
          refine tk 17 hHeld ?_ (hy := fun w' _ => by go_simp; rw [if_neg (by (repeat (first | rw [ByteArray.size_append] | rw [mkS_size] | rw [sz_one] | rw [List.length_singleton])); omega)])
          (try simp only [pA, pZ, pS])
          refine tk 18 hHeld ?_
          (try simp only [pA, pZ, pS])
          refine wpAnyH_done (by kernel_rfl) ?_ _
          refine NoPanic.normal ?_
          go_wp2
          go_ret
          refine ⟨?_, hWb.trans (B13.out.mono hWb.size)⟩
          rw [← HX.out]
          exact congrArg (fun x => Ending.returned (.string x)) (cat8 _ A B)
        · go_simp
          go_at_call 25; refine (HB.out w11 (HE.out.below B11.out)).mono ?_; rintro e' w14 ⟨rfl, hb14⟩
          (try go_wp2_with fail)
          refine hK.out _ _ ?hS14 (fun hHeld' => ?rest14)
          case hS14 => ((try dsimp only); exact ⟨cell_below hb14 hHeld.1, cell_below hb14 hHeld.2.1, cell_below hb14 hHeld.2.2⟩)
          clear hK K
          (first | simp only [pA, pZ, pS] | simp only [pN] | skip)
          clear hHeld
          have hHeld := hHeld'
          clear hHeld'
          have B14 := hidX (B11.out.trans (hb14.mono B11.out.size))
          have Sw14 := hidX (fun w' (h : Below w14.heap.size w14 w') => (show (fun w' => w'.cell? ⟨w.heap.size, 1, none⟩ = some (.int .u8 e.op) ∧ w'.cell? ⟨w.heap.size, 6, none⟩ = some (.int .i64 (pa : Int)) ∧ w'.cell? ⟨w.heap.size, 7, none⟩ = some (.int .i64 (pb : Int))) w' from ⟨cell_below h hHeld.1, cell_below h hHeld.2.1, cell_below h hHeld.2.2⟩))
          have b14 := cell_below hb14 b11
          refine wpAnyH_ready (rs := [3]) (by kernel_rfl) (by simp) (AllReadyH.cons (List.getElem?_toArray.trans rfl) (fun K hK => ?_) AllReadyH.nil)
          have hcv15 := run_convT e.op w14 w10.heap.size b14
          go_simp
          refine hK.out _ _ ?hS15 (fun hHeld' => ?rest15)
          case hS15 => ((try dsimp only); exact hHeld)
          clear hK K
          (first | simp only [pA, pZ, pS] | simp only [pN] | skip)
          clear hHeld
          have hHeld := hHeld'
          clear hHeld'
          clear hcv15
          refine tk 4 hHeld ?_ (hy := fun w' _ => by go_simp; rw [if_neg (by (repeat (first | rw [ByteArray.size_append] | rw [mkS_size] | rw [sz_one] | rw [List.length_singleton])); omega)])
          (try simp only [pA, pZ, pS])
          refine tk 5 hHeld ?_ (hy := fun w' _ => by go_simp; rw [if_neg (by (repeat (first | rw [ByteArray.size_append] | rw [mkS_size] | rw [sz_one] | rw [List.length_singleton])); omega)])
          (try simp only [pA, pZ, pS])
          refine tk 10 hHeld ?_ (hy := fun w' _ => by go_simp; rw [if_neg (by (repeat (first | rw [ByteArray.size_append] | rw [mkS_size] | rw [sz_one] | rw [List.length_singleton])); omega)])
          (try simp only [pA, pZ, pS])
          refine tk 11 hHeld ?_ (hy := fun w' _ => by go_simp; rw [if_neg (by (repeat (first | rw [ByteArray.size_append] | rw [mkS_size] | rw [sz_one] | rw [List.length_singleton])); omega)])
          (try simp only [pA, pZ, pS])
          refine tk 16 hHeld ?_ (hy := fun w' _ => by go_simp; rw [if_neg (by (repeat (first | rw [ByteArray.size_append] | rw [mkS_size] | rw [sz_one] | rw [List.length_singleton])); omega)])
          (try simp only [pA, pZ, pS])
          refine tk 17 hHeld ?_ (hy := fun w' _ => by go_simp; rw [if_neg (by (repeat (first | rw [ByteArray.size_append] | rw [mkS_size] | rw [sz_one] | rw [List.length_singleton])); omega)])
          (try simp only [pA, pZ, pS])
          refine tk 18 hHeld ?_
          (try simp only [pA, pZ, pS])
          refine wpAnyH_done (by kernel_rfl) ?_ _
          refine NoPanic.normal ?_
          go_wp2
          go_ret
          refine ⟨?_, hWb.trans (B14.out.mono hWb.size)⟩
          rw [← HX.out]
          exact congrArg (fun x => Ending.returned (.string x)) (cat8 _ A B)
      · go_simp
        go_at_call 25; refine (HB.out w10 (HE.out.below B10.out)).mono ?_; rintro e' w16 ⟨rfl, hb16⟩
        (try go_wp2_with fail)
        refine hK.out _ _ ?hS16 (fun hHeld' => ?rest16)
        case hS16 => ((try dsimp only); exact ⟨cell_below hb16 hHeld.1, cell_below hb16 hHeld.2.1, cell_below hb16 hHeld.2.2⟩)
        clear hK K
        (first | simp only [pA, pZ, pS] | simp only [pN] | skip)
        clear hHeld
        have hHeld := hHeld'
        clear hHeld'
        have B16 := hidX (B10.out.trans (hb16.mono B10.out.size))
        have Sw16 := hidX (fun w' (h : Below w16.heap.size w16 w') => (show (fun w' => w'.cell? ⟨w.heap.size, 1, none⟩ = some (.int .u8 e.op) ∧ w'.cell? ⟨w.heap.size, 6, none⟩ = some (.int .i64 (pa : Int)) ∧ w'.cell? ⟨w.heap.size, 7, none⟩ = some (.int .i64 (pb : Int))) w' from ⟨cell_below h hHeld.1, cell_below h hHeld.2.1, cell_below h hHeld.2.2⟩))
        refine wpAnyH_ready (rs := [2]) (by kernel_rfl) (by simp) (AllReadyH.cons (List.getElem?_toArray.trans rfl) (fun K hK => ?_) AllReadyH.nil)
        go_simp
        refine hK.out _ _ ?hS17 (fun hHeld' => ?rest17)
        case hS17 => ((try dsimp only); exact ⟨cell_below ((Below.refl _ _).alloc (Nat.le_refl _) _) hHeld.1, cell_below ((Below.refl _ _).alloc (Nat.le_refl _) _) hHeld.2.1, cell_below ((Below.refl _ _).alloc (Nat.le_refl _) _) hHeld.2.2⟩)
        clear hK K
        (first | simp only [pA, pZ, pS] | simp only [pN] | skip)
        clear hHeld
        have hHeld := hHeld'
        clear hHeld'
        refine lift_alloc ?_
        intro w17 hW17 hq17
        have b17 : w17.cell? ⟨w16.heap.size, 0, none⟩ = some (.int .u8 e.op) := by simp [World.cell?, hq17]
        have B17 := hidX (B16.out.trans (hW17.mono B16.out.size))
        replace hHeld : (fun w' => w'.cell? ⟨w.heap.size, 1, none⟩ = some (.int .u8 e.op) ∧ w'.cell? ⟨w.heap.size, 6, none⟩ = some (.int .i64 (pa : Int)) ∧ w'.cell? ⟨w.heap.size, 7, none⟩ = some (.int .i64 (pb : Int))) w17 := Sw16.out w17 hW17
        have Sw17 := hidX (fun w' (h : Below w17.heap.size w17 w') => (show (fun w' => w'.cell? ⟨w.heap.size, 1, none⟩ = some (.int .u8 e.op) ∧ w'.cell? ⟨w.heap.size, 6, none⟩ = some (.int .i64 (pa : Int)) ∧ w'.cell? ⟨w.heap.size, 7, none⟩ = some (.int .i64 (pb : Int))) w' from ⟨cell_below h hHeld.1, cell_below h hHeld.2.1, cell_below h hHeld.2.2⟩))
        clear hq17
        refine wpAnyH_ready (rs := [3]) (by kernel_rfl) (by simp) (AllReadyH.cons (List.getElem?_toArray.trans rfl) (fun K hK => ?_) AllReadyH.nil)
        have hcv18 := run_convT e.op w17 w16.heap.size b17
        go_simp
        refine hK.out _ _ ?hS18 (fun hHeld' => ?rest18)
        case hS18 => ((try dsimp only); exact hHeld)
        clear hK K
        (first | simp only [pA, pZ, pS] | simp only [pN] | skip)
        clear hHeld
        have hHeld := hHeld'
        clear hHeld'
        clear hcv18
        refine tk 4 hHeld ?_ (hy := fun w' _ => by go_simp; rw [if_neg (by (repeat (first | rw [ByteArray.size_append] | rw [mkS_size] | rw [sz_one] | rw [List.length_singleton])); omega)])
        (try simp only [pA, pZ, pS])
        refine tk 5 hHeld ?_ (hy := fun w' _ => by go_simp; rw [if_neg (by (repeat (first | rw [ByteArray.size_append] | rw [mkS_size] | rw [sz_one] | rw [List.length_singleton])); omega)])
        (try simp only [pA, pZ, pS])
        refine tk 10 hHeld ?_ (hy := fun w' _ => by go_simp; rw [if_neg (by (repeat (first | rw [ByteArray.size_append] | rw [mkS_size] | rw [sz_one] | rw [List.length_singleton])); omega)])
        (try simp only [pA, pZ, pS])
        refine tk 11 hHeld ?_ (hy := fun w' _ => by go_simp; rw [if_neg (by (repeat (first | rw [ByteArray.size_append] | rw [mkS_size] | rw [sz_one] | rw [List.length_singleton])); omega)])
        (try simp only [pA, pZ, pS])
        refine tk 16 hHeld ?_ (hy := fun w' _ => by go_simp; rw [if_neg (by (repeat (first | rw [ByteArray.size_append] | rw [mkS_size] | rw [sz_one] | rw [List.length_singleton])); omega)])
        (try simp only [pA, pZ, pS])
        refine tk 17 hHeld ?_ (hy := fun w' _ => by go_simp; rw [if_neg (by (repeat (first | rw [ByteArray.size_append] | rw [mkS_size] | rw [sz_one] | rw [List.length_singleton])); omega)])
        (try simp only [pA, pZ, pS])
        refine tk 18 hHeld ?_
        (try simp only [pA, pZ, pS])
        refine wpAnyH_done (by kernel_rfl) ?_ _
        refine NoPanic.normal ?_
        go_wp2
        go_ret
        refine ⟨?_, hWb.trans (B17.out.mono hWb.size)⟩
        rw [← HX.out]
        exact congrArg (fun x => Ending.returned (.string x)) (cat8 _ A B)
theorem lExpr_any {es : List Ex} {S : List Sp} (hT : ExT es S) (a : Option Addr) (c : Nat) (q : Option Nat) : ∀ (n i : Nat) (w : World), ExsAt q w a es → i < n → i < es.length → Calls Tryz.prog 25 #[.slice a es.length c, .int .i64 (i : Int)] w fun e w' => e = .returned (.string (mkS (txE n es i))) ∧ Below w.heap.size w w'
  | 0, _, _, _, h, _ => absurd h (Nat.not_lt_zero _)
  | n + 1, i, w, hE, hin, hi => lExpr_step hT a c q n (lExpr_any hT a c q n) i w hE hin hi
end Go.Proofs.YtgkoiojelckblaaGreatDoor

namespace Go.Proofs.YtgkoiojelckblaaGreatDoor
open Go.RowKit
attribute [local go_sem ↓] Go.wp_at_zero Go.wp_at_succ

theorem lift_alloc2 {P : World → Prop} {w : World} {o1 o2 : Obj} (h : ∀ wt, Below w.heap.size w wt → wt.heap[w.heap.size]? = some o1 → wt.heap[w.heap.size + 1]? = some o2 → P wt) : P ((w.alloc o1).alloc o2) := by
  have h1 : (w.alloc o1).heap.size = w.heap.size + 1 := by simp
  refine h _ (((Below.refl _ _).alloc (Nat.le_refl _) _).alloc (by omega) _) ?_ ?_
  · rw [Below.heap_alloc _ _ _ (by omega)]
    exact heap_alloc_new _ _
  · rw [← h1]
    exact heap_alloc_new _ _
theorem txArgs_takeS {es : List Ex} {l : List Int} {k : Nat} {m : Nat} (h : l[k]? = some (m : Int)) : txArgs es (l.take (k + 1)) = txArgs es (l.take k) ++ 32 :: txE 60 es m := by
  unfold txArgs
  rw [flat_takeS _ h]
  rfl
theorem flat_take_leY {α β : Type} (g : α → List β) (l : List α) (j : Nat) : ((l.take j).flatMap g).length ≤ (l.flatMap g).length := by
  have h : l.flatMap g = (l.take j).flatMap g ++ (l.drop j).flatMap g := by
    rw [← List.flatMap_append, List.take_append_drop]
  rw [h, List.length_append]
  omega
theorem cat_sp (x y : Bs) : mkS x ++ (({ data := #[32] } : ByteArray) ++ mkS y) = mkS (x ++ 32 :: y) := by
  have e : ({ data := #[32] } : ByteArray) = mkS [32] := rfl
  rw [e, mkS_app, mkS_app]
  rfl
theorem cat_par (x : Bs) : ({ data := #[40] } : ByteArray) ++ mkS x ++ { data := #[41] } = mkS (40 :: (x ++ [41])) := by
  have e : ∀ x : UInt8, ({ data := #[x] } : ByteArray) = mkS [x] := fun _ => rfl
  rw [e, e, mkS_app, mkS_app]
  simp
set_option maxHeartbeats 3200000 in
theorem lAct_any (n0 : ByteArray) (s0 : Int) (a1 : Option Addr) (m1 c1 : Nat) (a3 : Option Addr) (m3 c3 : Nat) (x : Ac) (a_args : Option Addr) (c_args : Nat) {es : List Ex} {S : List Sp} (hT : ExT es S) (hx : AcT es x) (a : Option Addr) (c : Nat) (q : Option Nat) (w : World) (hE : ExsAt q w a es) (hI : IntsAt q w a_args x.args) :
    Calls Tryz.prog 12 #[.agg #[.string n0, .int .i64 s0, .slice a1 m1 c1, .slice a es.length c, .slice a3 m3 c3], .agg #[.int .i64 x.kind, .int .i64 x.k, .string x.cls, .slice a_args x.args.length c_args]] w fun e w' => e = .returned (.string (mkS (txA es x))) ∧ Below w.heap.size w w' := by
  have hcs := hx.cases
  have hhl := txHead_le hx
  have hal := txArgs_le hT hx.2.1 hx.2.2
  obtain ⟨_, ha6, hav⟩ := hx
  have h60 := hT.1
  have HXA : Hid (40 :: (txHead x ++ (txArgs es x.args ++ [41])) = txA es x) := rfl
  obtain ⟨hd, hhd⟩ : ∃ hd, hd = txHead x := ⟨_, rfl⟩
  rw [← hhd] at HXA hhl
  obtain ⟨cb, hcb⟩ : ∃ cb, x.cls = mkS cb := ⟨bsOf x.cls, (mkS_bs _).symm⟩
  have HHD := hidX hhd
  have HE := hidX hE
  have HI := hidX hI
  have HAV := hidX hav
  have HCS := hidX hcs
  have HCB := hidX hcb
  rw [hcb]
  clear hE hI hav hcs hhd hcb
  go_enter Tryz.func12, Tryz.ntmps12
  go_upto_region 1 with fail
  refine lift_alloc2 ?_
  intro wb hWb hq1 hq2
  have hlt : w.heap.size + 1 < wb.heap.size := lt_of_block' hq2
  have HB1 := hidX hq1
  have d0 : wb.cell? ⟨w.heap.size + 1, 0, none⟩ = some (.int .i64 x.kind) := by simp [World.cell?, hq2]
  have d1 : wb.cell? ⟨w.heap.size + 1, 1, none⟩ = some (.int .i64 x.k) := by simp [World.cell?, hq2]
  have d2 : wb.cell? ⟨w.heap.size + 1, 2, none⟩ = some (.string (mkS cb)) := by simp [World.cell?, hq2]
  have d3 : wb.cell? ⟨w.heap.size + 1, 3, none⟩ = some (.slice a_args x.args.length c_args) := by simp [World.cell?, hq2]
  have D3 := hidX d3
  clear hq1 hq2 d3
  rcases HCS.out with ⟨k, hs⟩ | ⟨k, hk, hz⟩ | ⟨k, hk⟩ | ⟨k, hz⟩
  · have hcl : cb.length ≤ 20 := by rw [HCB.out, mkS_size] at hs; exact hs
    have HH : Hid (mkS hd = ({ data := #[97, 100, 100, 32] } : ByteArray) ++ mkS cb) := show _ = _ from by rw [HHD.out]; unfold txHead; rw [if_pos k, HCB.out, bs_mkS]; exact (mkS_app [97, 100, 100, 32] cb).symm
    have y1 : ¬ 9223372036854775807 < 4 + (mkS cb).size := by rw [mkS_size]; omega
    have y2 : ¬ 9223372036854775807 < ({ data := #[97, 100, 100, 32] } : ByteArray).size + (mkS cb).size := y1
    rw [k] at d0
    clear hs k
    go_upto_region 10 with fail
    rw [← HH.out]
    have HBC := hidX (show Below wb.heap.size wb wb from Below.refl _ _)
    have e3 : wb.cell? ⟨w.heap.size + 1, 3, none⟩ = some (.slice a_args x.args.length c_args) := (HBC.out.cell (p := ⟨w.heap.size + 1, 3, none⟩) hlt).trans D3.out
    clear d0 d1 d2
    go_wp2
    go_loopw [5, 30] (fun sv iv wr => ∃ k : Nat, k ≤ x.args.length ∧ iv = .int .i64 (k : Int) ∧ sv = .string (mkS (hd ++ txArgs es (x.args.take k))) ∧ Below wb.heap.size wb wr) (fun _ iv _ => x.args.length - (intOf iv).toNat)
    case atStart => exact ⟨0, Nat.zero_le _, rfl, by simp [txArgs], HBC.out⟩
    case round =>
      obtain ⟨k, hk, rfl, rfl, hb⟩ := hrel
      have HB := hidX hb
      have hq1 := (hb.block _ (show w.heap.size < wb.heap.size by omega)).trans HB1.out
      have e1 : wr.cell? ⟨w.heap.size, 3, none⟩ = some (.slice a es.length c) := by simp [World.cell?, hq1]
      have HW := hidX (hWb.trans (hb.mono hWb.size))
      have hsz := hb.size
      have htk : (txArgs es (x.args.take k)).length ≤ (txArgs es x.args).length := flat_take_leY _ _ _
      clear hb hq1 HBC e3
      by_cases hkl : k < x.args.length
      · obtain ⟨v, hv⟩ : ∃ v, x.args[k]? = some v := ⟨x.args[k], by simp [hkl]⟩
        obtain ⟨hv0, hv1⟩ := HAV.out v (List.mem_of_getElem? hv)
        obtain ⟨m, rfl⟩ : ∃ m : Nat, v = (m : Int) := ⟨v.toNat, by omega⟩
        obtain ⟨b, o, rfl, _, hc⟩ := (HI.out.below HW.out).get hv
        have i0 : (0 : Int) ≤ (k : Int) := by omega
        have i1 : (k : Int) < (x.args.length : Int) := by omega
        have hm : m < es.length := by omega
        have HTS := hidX (txArgs_takeS (es := es) hv)
        have hmE := txE_short hT 60 m hm
        obtain ⟨Z, hZ⟩ : ∃ Z, Z = hd ++ txArgs es (x.args.take k) := ⟨_, rfl⟩
        have hZl : Z.length ≤ 400000000 := by rw [hZ, List.length_append]; omega
        have HZ := hidX hZ
        rw [← hZ]
        have y1 : ¬ 9223372036854775807 < 1 + (mkS (txE 60 es m)).size := by rw [mkS_size]; omega
        have y2 : ¬ 9223372036854775807 < (mkS Z).size + (({ data := #[32] } : ByteArray) ++ mkS (txE 60 es m)).size := by rw [ByteArray.size_append, mkS_size, mkS_size, sz_one]; omega
        have y3 : ¬ 9223372036854775807 < (mkS Z).size + (({ data := #[32] } : ByteArray).size + (mkS (txE 60 es m)).size) := by rw [mkS_size, mkS_size, sz_one]; omega
        have y4 : ¬ 9223372036854775807 < (mkS Z).size + (1 + (mkS (txE 60 es m)).size) := by rw [mkS_size, mkS_size]; omega
        clear hv hv0 hv1 hZ htk
        go_wp2_with (go_at_call 25; refine (lExpr_any hT a c q 60 m _ (HE.out.below HW.out) (by omega) hm).mono ?_; rintro e w1 ⟨rfl, hb1⟩)
        go_roundw
        case rel => exact ⟨k + 1, by omega, by go_num, by rw [cat_sp, HTS.out, HZ.out, List.append_assoc], HB.out.trans (hb1.mono hsz)⟩
        case measure => (simp [intOf]; omega)
      · obtain rfl : k = x.args.length := by omega
        have i1 : ¬ (x.args.length : Int) < (x.args.length : Int) := by omega
        rw [List.take_length]
        obtain ⟨Z, hZ⟩ : ∃ Z, Z = hd ++ txArgs es x.args := ⟨_, rfl⟩
        have hZl : Z.length ≤ 400000000 := by rw [hZ, List.length_append]; omega
        have HZ := hidX hZ
        rw [← hZ]
        have y1 : ¬ 9223372036854775807 < 1 + (mkS Z).size := by rw [mkS_size]; omega
        have y2 : ¬ 9223372036854775807 < (({ data := #[40] } : ByteArray) ++ mkS Z).size + 1 := by rw [ByteArray.size_append, mkS_size, sz_one]; omega
        have y3 : ¬ 9223372036854775807 < ({ data := #[40] } : ByteArray).size + (mkS Z).size + 1 := by rw [mkS_size, sz_one]; omega
        have y4 : ¬ 9223372036854775807 < 1 + (mkS Z).size + 1 := by rw [mkS_size]; omega
        clear hZ htk
        go_wp2
        go_ret
        refine ⟨?_, HW.out⟩
        rw [← HXA.out, ← List.append_assoc, ← HZ.out]
        exact congrArg (fun x => Ending.returned (.string x)) (cat_par Z)
  · have HH : Hid (mkS hd = ({ data := #[100, 114, 111, 112, 32] } : ByteArray) ++ mkS (Lib.itoa x.k)) := show _ = _ from by rw [HHD.out]; unfold txHead; rw [if_neg (by omega), if_pos k]; exact (mkS_app [100, 114, 111, 112, 32] _).symm
    have hil := Lib.itoa_length_le _ hk.1 hk.2
    have y1 : ¬ 9223372036854775807 < 5 + (mkS (Lib.itoa x.k)).size := by rw [mkS_size]; omega
    have y2 : ¬ 9223372036854775807 < ({ data := #[100, 114, 111, 112, 32] } : ByteArray).size + (mkS (Lib.itoa x.k)).size := y1
    rw [k] at d0
    clear k hz
    go_upto_region 10 with (go_at_call 10; refine (l1Dec_num x.k _ hk).mono ?_; rintro e w1 ⟨rfl, hb1⟩)
    rw [← HH.out]
    have HBC := hidX (show Below wb.heap.size wb w1 from hb1)
    have e3 : w1.cell? ⟨w.heap.size + 1, 3, none⟩ = some (.slice a_args x.args.length c_args) := (HBC.out.cell (p := ⟨w.heap.size + 1, 3, none⟩) hlt).trans D3.out
    clear d0 d1 d2
    go_wp2
    go_loopw [5, 30] (fun sv iv wr => ∃ k : Nat, k ≤ x.args.length ∧ iv = .int .i64 (k : Int) ∧ sv = .string (mkS (hd ++ txArgs es (x.args.take k))) ∧ Below wb.heap.size wb wr) (fun _ iv _ => x.args.length - (intOf iv).toNat)
    case atStart => exact ⟨0, Nat.zero_le _, rfl, by simp [txArgs], HBC.out⟩
    case round =>
      obtain ⟨k, hk, rfl, rfl, hb⟩ := hrel
      have HB := hidX hb
      have hq1 := (hb.block _ (show w.heap.size < wb.heap.size by omega)).trans HB1.out
      have e1 : wr.cell? ⟨w.heap.size, 3, none⟩ = some (.slice a es.length c) := by simp [World.cell?, hq1]
      have HW := hidX (hWb.trans (hb.mono hWb.size))
      have hsz := hb.size
      have htk : (txArgs es (x.args.take k)).length ≤ (txArgs es x.args).length := flat_take_leY _ _ _
      clear hb hq1 HBC e3
      by_cases hkl : k < x.args.length
      · obtain ⟨v, hv⟩ : ∃ v, x.args[k]? = some v := ⟨x.args[k], by simp [hkl]⟩
        obtain ⟨hv0, hv1⟩ := HAV.out v (List.mem_of_getElem? hv)
        obtain ⟨m, rfl⟩ : ∃ m : Nat, v = (m : Int) := ⟨v.toNat, by omega⟩
        obtain ⟨b, o, rfl, _, hc⟩ := (HI.out.below HW.out).get hv
        have i0 : (0 : Int) ≤ (k : Int) := by omega
        have i1 : (k : Int) < (x.args.length : Int) := by omega
        have hm : m < es.length := by omega
        have HTS := hidX (txArgs_takeS (es := es) hv)
        have hmE := txE_short hT 60 m hm
        obtain ⟨Z, hZ⟩ : ∃ Z, Z = hd ++ txArgs es (x.args.take k) := ⟨_, rfl⟩
        have hZl : Z.length ≤ 400000000 := by rw [hZ, List.length_append]; omega
        have HZ := hidX hZ
        rw [← hZ]
        have y1 : ¬ 9223372036854775807 < 1 + (mkS (txE 60 es m)).size := by rw [mkS_size]; omega
        have y2 : ¬ 9223372036854775807 < (mkS Z).size + (({ data := #[32] } : ByteArray) ++ mkS (txE 60 es m)).size := by rw [ByteArray.size_append, mkS_size, mkS_size, sz_one]; omega
        have y3 : ¬ 9223372036854775807 < (mkS Z).size + (({ data := #[32] } : ByteArray).size + (mkS (txE 60 es m)).size) := by rw [mkS_size, mkS_size, sz_one]; omega
        have y4 : ¬ 9223372036854775807 < (mkS Z).size + (1 + (mkS (txE 60 es m)).size) := by rw [mkS_size, mkS_size]; omega
        clear hv hv0 hv1 hZ htk
        go_wp2_with (go_at_call 25; refine (lExpr_any hT a c q 60 m _ (HE.out.below HW.out) (by omega) hm).mono ?_; rintro e w1 ⟨rfl, hb1⟩)
        go_roundw
        case rel => exact ⟨k + 1, by omega, by go_num, by rw [cat_sp, HTS.out, HZ.out, List.append_assoc], HB.out.trans (hb1.mono hsz)⟩
        case measure => (simp [intOf]; omega)
      · obtain rfl : k = x.args.length := by omega
        have i1 : ¬ (x.args.length : Int) < (x.args.length : Int) := by omega
        rw [List.take_length]
        obtain ⟨Z, hZ⟩ : ∃ Z, Z = hd ++ txArgs es x.args := ⟨_, rfl⟩
        have hZl : Z.length ≤ 400000000 := by rw [hZ, List.length_append]; omega
        have HZ := hidX hZ
        rw [← hZ]
        have y1 : ¬ 9223372036854775807 < 1 + (mkS Z).size := by rw [mkS_size]; omega
        have y2 : ¬ 9223372036854775807 < (({ data := #[40] } : ByteArray) ++ mkS Z).size + 1 := by rw [ByteArray.size_append, mkS_size, sz_one]; omega
        have y3 : ¬ 9223372036854775807 < ({ data := #[40] } : ByteArray).size + (mkS Z).size + 1 := by rw [mkS_size, sz_one]; omega
        have y4 : ¬ 9223372036854775807 < 1 + (mkS Z).size + 1 := by rw [mkS_size]; omega
        clear hZ htk
        go_wp2
        go_ret
        refine ⟨?_, HW.out⟩
        rw [← HXA.out, ← List.append_assoc, ← HZ.out]
        exact congrArg (fun x => Ending.returned (.string x)) (cat_par Z)
  · have HH : Hid (mkS hd = ({ data := #[109, 111, 100, 32] } : ByteArray) ++ mkS (Lib.itoa x.k)) := show _ = _ from by rw [HHD.out]; unfold txHead; rw [if_neg (by omega), if_neg (by omega), if_pos k]; exact (mkS_app [109, 111, 100, 32] _).symm
    have hil := Lib.itoa_length_le _ hk.1 hk.2
    have y1 : ¬ 9223372036854775807 < 4 + (mkS (Lib.itoa x.k)).size := by rw [mkS_size]; omega
    have y2 : ¬ 9223372036854775807 < ({ data := #[109, 111, 100, 32] } : ByteArray).size + (mkS (Lib.itoa x.k)).size := y1
    rw [k] at d0
    clear k
    go_upto_region 10 with (go_at_call 10; refine (l1Dec_num x.k _ hk).mono ?_; rintro e w1 ⟨rfl, hb1⟩)
    rw [← HH.out]
    have HBC := hidX (show Below wb.heap.size wb w1 from hb1)
    have e3 : w1.cell? ⟨w.heap.size + 1, 3, none⟩ = some (.slice a_args x.args.length c_args) := (HBC.out.cell (p := ⟨w.heap.size + 1, 3, none⟩) hlt).trans D3.out
    clear d0 d1 d2
    go_wp2
    go_loopw [5, 30] (fun sv iv wr => ∃ k : Nat, k ≤ x.args.length ∧ iv = .int .i64 (k : Int) ∧ sv = .string (mkS (hd ++ txArgs es (x.args.take k))) ∧ Below wb.heap.size wb wr) (fun _ iv _ => x.args.length - (intOf iv).toNat)
    case atStart => exact ⟨0, Nat.zero_le _, rfl, by simp [txArgs], HBC.out⟩
    case round =>
      obtain ⟨k, hk, rfl, rfl, hb⟩ := hrel
      have HB := hidX hb
      have hq1 := (hb.block _ (show w.heap.size < wb.heap.size by omega)).trans HB1.out
      have e1 : wr.cell? ⟨w.heap.size, 3, none⟩ = some (.slice a es.length c) := by simp [World.cell?, hq1]
      have HW := hidX (hWb.trans (hb.mono hWb.size))
      have hsz := hb.size
      have htk : (txArgs es (x.args.take k)).length ≤ (txArgs es x.args).length := flat_take_leY _ _ _
      clear hb hq1 HBC e3
      by_cases hkl : k < x.args.length
      · obtain ⟨v, hv⟩ : ∃ v, x.args[k]? = some v := ⟨x.args[k], by simp [hkl]⟩
        obtain ⟨hv0, hv1⟩ := HAV.out v (List.mem_of_getElem? hv)
        obtain ⟨m, rfl⟩ : ∃ m : Nat, v = (m : Int) := ⟨v.toNat, by omega⟩
        obtain ⟨b, o, rfl, _, hc⟩ := (HI.out.below HW.out).get hv
        have i0 : (0 : Int) ≤ (k : Int) := by omega
        have i1 : (k : Int) < (x.args.length : Int) := by omega
        have hm : m < es.length := by omega
        have HTS := hidX (txArgs_takeS (es := es) hv)
        have hmE := txE_short hT 60 m hm
        obtain ⟨Z, hZ⟩ : ∃ Z, Z = hd ++ txArgs es (x.args.take k) := ⟨_, rfl⟩
        have hZl : Z.length ≤ 400000000 := by rw [hZ, List.length_append]; omega
        have HZ := hidX hZ
        rw [← hZ]
        have y1 : ¬ 9223372036854775807 < 1 + (mkS (txE 60 es m)).size := by rw [mkS_size]; omega
        have y2 : ¬ 9223372036854775807 < (mkS Z).size + (({ data := #[32] } : ByteArray) ++ mkS (txE 60 es m)).size := by rw [ByteArray.size_append, mkS_size, mkS_size, sz_one]; omega
        have y3 : ¬ 9223372036854775807 < (mkS Z).size + (({ data := #[32] } : ByteArray).size + (mkS (txE 60 es m)).size) := by rw [mkS_size, mkS_size, sz_one]; omega
        have y4 : ¬ 9223372036854775807 < (mkS Z).size + (1 + (mkS (txE 60 es m)).size) := by rw [mkS_size, mkS_size]; omega
        clear hv hv0 hv1 hZ htk
        go_wp2_with (go_at_call 25; refine (lExpr_any hT a c q 60 m _ (HE.out.below HW.out) (by omega) hm).mono ?_; rintro e w1 ⟨rfl, hb1⟩)
        go_roundw
        case rel => exact ⟨k + 1, by omega, by go_num, by rw [cat_sp, HTS.out, HZ.out, List.append_assoc], HB.out.trans (hb1.mono hsz)⟩
        case measure => (simp [intOf]; omega)
      · obtain rfl : k = x.args.length := by omega
        have i1 : ¬ (x.args.length : Int) < (x.args.length : Int) := by omega
        rw [List.take_length]
        obtain ⟨Z, hZ⟩ : ∃ Z, Z = hd ++ txArgs es x.args := ⟨_, rfl⟩
        have hZl : Z.length ≤ 400000000 := by rw [hZ, List.length_append]; omega
        have HZ := hidX hZ
        rw [← hZ]
        have y1 : ¬ 9223372036854775807 < 1 + (mkS Z).size := by rw [mkS_size]; omega
        have y2 : ¬ 9223372036854775807 < (({ data := #[40] } : ByteArray) ++ mkS Z).size + 1 := by rw [ByteArray.size_append, mkS_size, sz_one]; omega
        have y3 : ¬ 9223372036854775807 < ({ data := #[40] } : ByteArray).size + (mkS Z).size + 1 := by rw [mkS_size, sz_one]; omega
        have y4 : ¬ 9223372036854775807 < 1 + (mkS Z).size + 1 := by rw [mkS_size]; omega
        clear hZ htk
        go_wp2
        go_ret
        refine ⟨?_, HW.out⟩
        rw [← HXA.out, ← List.append_assoc, ← HZ.out]
        exact congrArg (fun x => Ending.returned (.string x)) (cat_par Z)
  · have HH : Hid (mkS hd = ({ data := #[104, 97, 108, 116] } : ByteArray)) := show _ = _ from by rw [HHD.out]; unfold txHead; rw [if_neg (by omega), if_neg (by omega), if_neg (by omega)]; rfl
    rw [k] at d0
    clear k hz
    go_upto_region 10 with fail
    rw [← HH.out]
    have HBC := hidX (show Below wb.heap.size wb wb from Below.refl _ _)
    have e3 : wb.cell? ⟨w.heap.size + 1, 3, none⟩ = some (.slice a_args x.args.length c_args) := (HBC.out.cell (p := ⟨w.heap.size + 1, 3, none⟩) hlt).trans D3.out
    clear d0 d1 d2
    go_wp2
    go_loopw [5, 30] (fun sv iv wr => ∃ k : Nat, k ≤ x.args.length ∧ iv = .int .i64 (k : Int) ∧ sv = .string (mkS (hd ++ txArgs es (x.args.take k))) ∧ Below wb.heap.size wb wr) (fun _ iv _ => x.args.length - (intOf iv).toNat)
    case atStart => exact ⟨0, Nat.zero_le _, rfl, by simp [txArgs], HBC.out⟩
    case round =>
      obtain ⟨k, hk, rfl, rfl, hb⟩ := hrel
      have HB := hidX hb
      have hq1 := (hb.block _ (show w.heap.size < wb.heap.size by omega)).trans HB1.out
      have e1 : wr.cell? ⟨w.heap.size, 3, none⟩ = some (.slice a es.length c) := by simp [World.cell?, hq1]
      have HW := hidX (hWb.trans (hb.mono hWb.size))
      have hsz := hb.size
      have htk : (txArgs es (x.args.take k)).length ≤ (txArgs es x.args).length := flat_take_leY _ _ _
      clear hb hq1 HBC e3
      by_cases hkl : k < x.args.length
      · obtain ⟨v, hv⟩ : ∃ v, x.args[k]? = some v := ⟨x.args[k], by simp [hkl]⟩
        obtain ⟨hv0, hv1⟩ := HAV.out v (List.mem_of_getElem? hv)
        obtain ⟨m, rfl⟩ : ∃ m : Nat, v = (m : Int) := ⟨v.toNat, by omega⟩
        obtain ⟨b, o, rfl, _, hc⟩ := (HI.out.below HW.out).get hv
        have i0 : (0 : Int) ≤ (k : Int) := by omega
        have i1 : (k : Int) < (x.args.length : Int) := by omega
        have hm : m < es.length := by omega
        have HTS := hidX (txArgs_takeS (es := es) hv)
        have hmE := txE_short hT 60 m hm
        obtain ⟨Z, hZ⟩ : ∃ Z, Z = hd ++ txArgs es (x.args.take k) := ⟨_, rfl⟩
        have hZl : Z.length ≤ 400000000 := by rw [hZ, List.length_append]; omega
        have HZ := hidX hZ
        rw [← hZ]
        have y1 : ¬ 9223372036854775807 < 1 + (mkS (txE 60 es m)).size := by rw [mkS_size]; omega
        have y2 : ¬ 9223372036854775807 < (mkS Z).size + (({ data := #[32] } : ByteArray) ++ mkS (txE 60 es m)).size := by rw [ByteArray.size_append, mkS_size, mkS_size, sz_one]; omega
        have y3 : ¬ 9223372036854775807 < (mkS Z).size + (({ data := #[32] } : ByteArray).size + (mkS (txE 60 es m)).size) := by rw [mkS_size, mkS_size, sz_one]; omega
        have y4 : ¬ 9223372036854775807 < (mkS Z).size + (1 + (mkS (txE 60 es m)).size) := by rw [mkS_size, mkS_size]; omega
        clear hv hv0 hv1 hZ htk
        go_wp2_with (go_at_call 25; refine (lExpr_any hT a c q 60 m _ (HE.out.below HW.out) (by omega) hm).mono ?_; rintro e w1 ⟨rfl, hb1⟩)
        go_roundw
        case rel => exact ⟨k + 1, by omega, by go_num, by rw [cat_sp, HTS.out, HZ.out, List.append_assoc], HB.out.trans (hb1.mono hsz)⟩
        case measure => (simp [intOf]; omega)
      · obtain rfl : k = x.args.length := by omega
        have i1 : ¬ (x.args.length : Int) < (x.args.length : Int) := by omega
        rw [List.take_length]
        obtain ⟨Z, hZ⟩ : ∃ Z, Z = hd ++ txArgs es x.args := ⟨_, rfl⟩
        have hZl : Z.length ≤ 400000000 := by rw [hZ, List.length_append]; omega
        have HZ := hidX hZ
        rw [← hZ]
        have y1 : ¬ 9223372036854775807 < 1 + (mkS Z).size := by rw [mkS_size]; omega
        have y2 : ¬ 9223372036854775807 < (({ data := #[40] } : ByteArray) ++ mkS Z).size + 1 := by rw [ByteArray.size_append, mkS_size, sz_one]; omega
        have y3 : ¬ 9223372036854775807 < ({ data := #[40] } : ByteArray).size + (mkS Z).size + 1 := by rw [mkS_size, sz_one]; omega
        have y4 : ¬ 9223372036854775807 < 1 + (mkS Z).size + 1 := by rw [mkS_size]; omega
        clear hZ htk
        go_wp2
        go_ret
        refine ⟨?_, HW.out⟩
        rw [← HXA.out, ← List.append_assoc, ← HZ.out]
        exact congrArg (fun x => Ending.returned (.string x)) (cat_par Z)
end Go.Proofs.YtgkoiojelckblaaGreatDoor

namespace Go.Proofs.YtgkoiojelckblaaGreatDoor
open Go.RowKit

/-- A row of bytes of the call's own; the mark of a conversion may stand behind its cells. -/
def BOwn (w : World) (base : Nat) (v : Value) (l : Bs) : Prop := ∃ g cap cur fz, v = .slice (some ⟨g, 0, none⟩) l.length cap ∧ base ≤ g ∧ w.heap[g]? = some (.cells cur 5 fz) ∧ (fz = (0, 0) ∨ cur.size ≤ fz.1) ∧ l.length ≤ cap ∧ cap ≤ maxLen ∧ cur.size = cap ∧ cur.toList.take l.length = byV l
theorem BOwn.lt {w : World} {base : Nat} {v : Value} {l : Bs} (h : BOwn w base v l) : ∀ k, v.ownBlock = some k → base ≤ k ∧ k < w.heap.size := by
  obtain ⟨g, cap, cur, fz, rfl, h1, h2, _⟩ := h
  intro k hk
  injection hk with hk
  subst hk
  exact ⟨h1, lt_of_block' h2⟩
theorem BOwn.block {w w' : World} {base : Nat} {v : Value} {l : Bs} (h : BOwn w base v l) (hb : ∀ g, v.ownBlock = some g → w'.heap[g]? = w.heap[g]?) : BOwn w' base v l := by
  obtain ⟨g, cap, cur, fz, rfl, h1, h2, h3⟩ := h
  exact ⟨g, cap, cur, fz, rfl, h1, (hb g rfl).trans h2, h3⟩
theorem BOwn.below {w w' : World} {base : Nat} {v : Value} {l : Bs} (h : BOwn w base v l) (hb : Below w.heap.size w w') : BOwn w' base v l := h.block fun g hg => hb.block g (h.lt g hg).2
theorem BOwn.cells {w : World} {base : Nat} {v : Value} {l : Bs} (h : BOwn w base v l) : ∃ a c, v = .slice a l.length c ∧ BysAt w a l ∧ l.length ≤ c := by
  obtain ⟨g, cap, cur, fz, rfl, h1, h2, h3, h4, h5, h6, h7⟩ := h
  refine ⟨_, cap, rfl, fun j x hx => ⟨g, 0, rfl, lt_of_block' h2, ?_⟩, h4⟩
  have hj : j < l.length := (List.getElem?_eq_some_iff.1 hx).1
  have e : (byV l)[j]? = some (.int .u8 (x.toNat : Int)) := by simp [byV, hx]
  rw [← h7, List.getElem?_take, if_pos hj] at e
  simp [World.cell?, h2]
  simpa using e
theorem store_mark (P : Program) (g o : Nat) (t : TypeId) (fz : Nat × Nat) (vs : List Value) : ∀ (i : Nat) (cur : Array Value) (w : World), w.heap[g]? = some (.cells cur t fz) → (fz = (0, 0) ∨ cur.size ≤ fz.1) → o + i + vs.length ≤ cur.size → (∀ v ∈ vs, v.oneCell' = true) →
    (storeCells ⟨g, o, none⟩ vs i).run P w = .ok () (w.setRow g (cur.toList.take (o + i) ++ vs ++ cur.toList.drop (o + i + vs.length)).toArray) := by
  induction vs with
  | nil =>
    intro i cur w hg _ _ _
    rw [List.append_nil, List.length_nil, Nat.add_zero, List.take_append_drop, Array.toArray_toList, setRow_self w g cur t fz hg]
    rfl
  | cons v rest ih =>
    intro i cur w hg hfz hl h1
    rw [List.length_cons] at hl
    have hfro : w.frozen? ⟨g, o + i, none⟩ = false := by
      rcases hfz with rfl | hfz
      · simp [World.frozen?, hg]
      · simp only [World.frozen?, hg, Bool.and_eq_false_iff, decide_eq_false_iff_not]
        exact .inl (by omega)
    have hst : (store ((⟨g, o, none⟩ : Addr).add i) v).run P w = .ok () (w.setRow g (cur.setIfInBounds (o + i) v)) := by
      rw [Addr.add_lit, run_store P w _ v _ (h1 v (by simp)), show w.cell? ⟨g, o + i, none⟩ = some cur[o + i] from by simp [World.cell?, hg, show o + i < cur.size by omega]]
      simp [hfro, setCell_eq_setRow w g (o + i) cur t fz v hg]
    have hr := ih (i + 1) (cur.setIfInBounds (o + i) v) _ (setRow_heap w g cur _ t _ hg) (by simpa using hfz) (by simp; omega) (fun x hx => h1 x (by simp [hx]))
    have hseg := list_seg_step cur.toList (o + i) v rest (by simp; omega)
    rw [storeCells, Sem.run_bind, hst, Result.andThen_ok, hr, setRow_setRow]
    congr 3
    simpa [Array.toList_setIfInBounds, Nat.add_assoc] using hseg
/-- 'append' to such a row: in its place, or in a new one. -/
theorem append_mark {P : Program} (w : World) (base : Nat) (t ty : TypeId) (ht : P.underlying t = some (.slice 5)) (hinfo : (P.info? 5).map (fun i => (i.zero, i.size, i.bytes)) = some (some (.int .u8 0), 1, 1))
    (v : Value) (l : Bs) (hown : BOwn w base v l) (a : Addr) (m c : Nat) (news : Bs) (hl : news.length = m) (hnews : ∀ j u, (byV news)[j]? = some u → w.cell? (a.add j) = some u)
    (h63 : l.length + m ≤ 1000000000) (hbase : base ≤ w.heap.size) :
    ∃ v' w', (Builtin.append_ #[t, t] ty #[v, .slice (some a) m c]).run P w = .ok v' w' ∧ BOwn w' base v' (l ++ news) ∧ w.grownBy w' v.ownBlock := by
  obtain ⟨i, hi, hz0, hz1, hz2⟩ := info_parts hinfo
  obtain ⟨g, cap, cur, fz, rfl, h1, h2, h3, h4, h5, h6, h7⟩ := hown
  have hml : (byV news).length = m * i.size := by rw [byV_len, hl, hz1, Nat.mul_one]
  have hone : ∀ u ∈ byV news, u.oneCell' = true := fun u hu => by
    simp [byV] at hu
    obtain ⟨x, _, rfl⟩ := hu
    rfl
  have hlen : (l ++ news).length = l.length + m := by rw [List.length_append, hl]
  by_cases hroom : l.length + m ≤ cap
  · have hf := run_firstCells_some (P := P) w i.size m a m c (byV news) hml hnews
    have hst := store_mark P g l.length 5 fz (byV news) 0 cur w h2 h3 (by rw [byV_len, hl]; omega) hone
    rw [Nat.add_zero] at hst
    have hr : (Builtin.append_ #[t, t] ty #[.slice (some ⟨g, 0, none⟩) l.length cap, .slice (some a) m c]).run P w = .ok (.slice (some ⟨g, 0, none⟩) (l.length + m) cap) (w.setRow g (cur.toList.take l.length ++ byV news ++ cur.toList.drop (l.length + (byV news).length)).toArray) := by
      rw [hz1] at hf
      simp [Builtin.append_, run_underlying ht, sizeOf, typeInfo, hi, hz1, Builtin.lenOf, hroom, hf, Addr.add_lit, hst]
    refine ⟨_, _, hr, ⟨g, cap, _, fz, by rw [hlen], h1, setRow_heap w g cur _ _ _ h2, ?_, by omega, h5, ?_, ?_⟩, ⟨rfl, rfl, rfl, by simp, fun k _ hk => setRow_other w g k _ (fun e => hk (by simp [Value.ownBlock, e]))⟩⟩
    · rcases h3 with h3 | h3
      · exact .inl h3
      · refine .inr ?_
        simp [byV_len]
        omega
    · simp [byV_len]
      omega
    · have e : l.length = (byV l).length := (byV_len l).symm
      rw [h7, hlen]
      show ((byV l ++ byV news) ++ _).take (l.length + m) = byV (l ++ news)
      rw [show byV (l ++ news) = byV l ++ byV news from List.map_append, show l.length + m = (byV l ++ byV news).length by rw [List.length_append, byV_len, byV_len, hl]]
      exact List.take_left
  · have holds : ∀ j u, (byV l)[j]? = some u → w.cell? ((⟨g, 0, none⟩ : Addr).add j) = some u := fun j u hj => by
      have hjl : j < l.length := by have := (List.getElem?_eq_some_iff.1 hj).1; rwa [byV_len] at this
      rw [← h7, List.getElem?_take, if_pos hjl] at hj
      rw [Addr.add_lit, Nat.zero_add]
      simp [World.cell?, h2]
      simpa using hj
    have hr := run_append_grow (P := P) w t ty 5 i _ ht hi hz0 ⟨g, 0, none⟩ l.length cap (byV l) (by rw [byV_len, hz1, Nat.mul_one]) holds a m c (byV news) hml hnews (by omega) (by omega) (growslice_fits (by omega) (by rw [hz2]; omega))
    have hge := grownCap_ge w (l.length + m) cap 5
    refine ⟨_, _, hr, ⟨w.heap.size, _, _, (0, 0), by rw [hlen], hbase, heap_alloc_new w.drew _, .inl rfl, by omega, grownCap_le_maxLen w _ _ _ (by unfold maxLen; omega), ?_, ?_⟩, ⟨rfl, rfl, rfl, by simp, fun k hk _ => Below.heap_alloc _ _ _ hk⟩⟩
    · simp [byV_len, hl, size_zeroCells, Value.cells]
      omega
    · rw [hlen]
      simp only [Array.toList_append, List.append_assoc]
      rw [← List.append_assoc, show l.length + m = (byV l ++ byV news).length by rw [List.length_append, byV_len, byV_len, hl]]
      rw [show byV (l ++ news) = byV l ++ byV news from List.map_append]
      exact List.take_left
theorem append_mark_none {P : Program} {w : World} (base : Nat) (t ty : TypeId) (ht : P.underlying t = some (.slice 5)) (hinfo : (P.info? 5).map (fun i => (i.zero, i.size, i.bytes)) = some (some (.int .u8 0), 1, 1)) (v : Value) (l : Bs) (hown : BOwn w base v l) (c : Nat) :
    (Builtin.append_ #[t, t] ty #[v, .slice none 0 c]).run P w = .ok v w := by
  obtain ⟨i, hi, hz0, hz1, hz2⟩ := info_parts hinfo
  obtain ⟨g, cap, cur, fz, rfl, h1, h2, h3, h4, _⟩ := hown
  simp [Builtin.append_, run_underlying ht, sizeOf, typeInfo, hi, Builtin.lenOf, Builtin.firstCells, h4, storeCells]
theorem append_mark_any {P : Program} (w : World) (base : Nat) (t ty : TypeId) (ht : P.underlying t = some (.slice 5)) (hinfo : (P.info? 5).map (fun i => (i.zero, i.size, i.bytes)) = some (some (.int .u8 0), 1, 1))
    (v : Value) (l : Bs) (hown : BOwn w base v l) (sp : Option Addr) (c : Nat) (news : Bs) (hnews : BysAt w sp news)
    (h63 : l.length + news.length ≤ 1000000000) (hbase : base ≤ w.heap.size) :
    ∃ v' w', (Builtin.append_ #[t, t] ty #[v, .slice sp news.length c]).run P w = .ok v' w' ∧ BOwn w' base v' (l ++ news) ∧ w.grownBy w' v.ownBlock := by
  cases sp with
  | none =>
    cases news with
    | nil => exact ⟨v, w, append_mark_none base t ty ht hinfo v l hown c, by rwa [List.append_nil], ⟨rfl, rfl, rfl, Nat.le_refl _, fun _ _ _ => rfl⟩⟩
    | cons x r =>
      obtain ⟨b, o, e, _⟩ := hnews 0 x rfl
      cases e
  | some a =>
    refine append_mark w base t ty ht hinfo v l hown a news.length c news rfl (fun j u hj => ?_) h63 hbase
    simp only [byV, List.getElem?_map, Option.map_eq_some_iff] at hj
    obtain ⟨x, hx, rfl⟩ := hj
    obtain ⟨b, o, e, _, hc⟩ := hnews j x hx
    cases e
    rw [Addr.add_lit]
    exact hc
theorem wpList_append_mark {P : Program} {w : World} {ops : Array Oper} {rest : List Oper} {o : Oper} {a : Act} {Q : Exit → Act → World → Prop} (hgd : o.guard = none) (s x : Operand) (t : TypeId)
    (ho : o.op = .call { callee := .builtin .append, args := #[s, x], argTypes := #[t, t] })
    (base : Nat) (ht : P.underlying t = some (.slice 5)) (hinfo : (P.info? 5).map (fun i => (i.zero, i.size, i.bytes)) = some (some (.int .u8 0), 1, 1))
    (v : Value) (l : Bs) (hs : a.eval s = v) (hown : BOwn w base v l) (sp : Option Addr) (c : Nat) (news : Bs) (hx : a.eval x = .slice sp news.length c) (hnews : BysAt w sp news)
    (h63 : l.length + news.length ≤ 1000000000) (hbase : base ≤ w.heap.size)
    (h : ∀ v' w', Hid (BOwn w' base v' (l ++ news)) → Hid (w.grownBy w' v.ownBlock) → wpList P ops Q rest (a.put o.dst v') w') : wpList P ops Q (o :: rest) a w := by
  refine wpList_plain hgd fun K hK => ?_
  obtain ⟨v', w', hr, h2, h3⟩ := append_mark_any (P := P) w base t o.type ht hinfo v l hown sp c news hnews h63 hbase
  unfold Oper.wp execOp
  simp only [ho, resolve, invoke, builtin, Sem.run_bind, Sem.run_pure, Result.andThen_ok, List.map_toArray, List.map_cons, List.map_nil, hs, hx, hr]
  exact hK _ _ (h v' w' h2 h3)
end Go.Proofs.YtgkoiojelckblaaGreatDoor

namespace Go.Proofs.YtgkoiojelckblaaGreatDoor
open Go.RowKit
attribute [local go_sem ↓] Go.wp_at_zero Go.wp_at_succ

/-- What the model answers. -/
def SPo (w : World) (l : Bs) (e : Ending) (w' : World) : Prop := (∃ v, e = .returned v ∧ BOwn w' w.heap.size v l) ∧ Below w.heap.size w w'
theorem catR (x : Bs) (l : Bs) : mkS x ++ (⟨l.toArray⟩ : ByteArray) = mkS (x ++ l) := mkS_app x l
theorem catH (X nb sl : Bs) : mkS X ++ (({ data := #[40, 114, 117, 108, 101, 32] } : ByteArray) ++ mkS nb ++ { data := #[32] } ++ mkS sl) = mkS (X ++ (ruleB ++ (nb ++ 32 :: sl))) := by
  have e1 : ({ data := #[40, 114, 117, 108, 101, 32] } : ByteArray) = mkS ruleB := rfl
  have e2 : ({ data := #[32] } : ByteArray) = mkS [32] := rfl
  rw [e1, e2, mkS_app, mkS_app, mkS_app, mkS_app]
  simp
theorem catL (x y : Bs) : mkS x ++ (({ data := #[10, 32, 32] } : ByteArray) ++ mkS y) = mkS (x ++ (lineB ++ y)) := by
  have e : ({ data := #[10, 32, 32] } : ByteArray) = mkS lineB := rfl
  rw [e, mkS_app, mkS_app]
theorem ngB (b : Bool) : (if b then notX ++ [32] else []) = if b then [110, 111, 116, 32] else [] := by cases b <;> rfl

set_option maxHeartbeats 12800000 in
theorem sPrint_own (rs : List Ru) (a : Option Addr) (c : Nat) (q : Option Nat) (w : World) (hv : RusAt q w a rs) (h16 : rs.length ≤ 16) (hT : ∀ r ∈ rs, RuT r)
    (HC : Hid (Calls Tryz.prog 9 #[.slice a rs.length c] w fun e w' => e = .returned (.bool true) ∧ Below w.heap.size w w')) :
    Calls Tryz.prog 4 #[.slice a rs.length c] w (SPo w (txRs rs)) := by
  have HV := hidX hv
  have HT := hidX hT
  have hlen := txRs_le h16 hT
  clear hv hT
  go_enter Tryz.func4, Tryz.ntmps4
  go_wp2_with (go_at_call 9; with_reducible refine HC.out.mono ?_; rintro e w1 ⟨rfl, hb1⟩)
  go_loopw [3, 17] (fun sv iv wr => ∃ k : Nat, k ≤ rs.length ∧ iv = .int .i64 (k : Int) ∧ sv = .string (mkS (txRs (rs.take k))) ∧ Below w.heap.size w wr) (fun _ iv _ => rs.length - (intOf iv).toNat)
  case atStart => exact ⟨0, Nat.zero_le _, rfl, rfl, hb1⟩
  case round =>
    obtain ⟨k, hk, rfl, rfl, hb⟩ := hrel
    have HB := hidX hb
    have hsz := hb.size
    have hX : (txRs (rs.take k)).length ≤ (txRs rs).length := flat_take_leY _ _ _
    clear hb hb1
    by_cases hkl : k < rs.length
    · obtain ⟨x, hx⟩ : ∃ x, rs[k]? = some x := ⟨rs[k], by simp [hkl]⟩
      have hxT := HT.out x (List.mem_of_getElem? hx)
      have hhdl := txHd_le hxT
      obtain ⟨b, o, a1, c1, a2, c2, a3, c3, rfl, _, t0, t1, t2, t3, t4, hpt, hex, hac, _⟩ := (HV.out.below HB.out).get hx
      obtain ⟨hnm, hsal, hp6, hpp, ha8, ⟨SS, hES⟩, haa⟩ := hxT
      have hpsl := txPs_le hp6 hpp
      have hasl := txAs_le hES ha8 haa
      have hisl := Lib.itoa_length_le _ hsal.1 hsal.2
      have HPT := hidX hpt
      have HEX := hidX hex
      have HAC := hidX hac
      have HPP := hidX hpp
      have HAA := hidX haa
      have i0 : (0 : Int) ≤ (k : Int) := by omega
      have i1 : (k : Int) < (rs.length : Int) := by omega
      have HLT : Hid (txRs (rs.take (k + 1)) = txRs (rs.take k) ++ txR x) := flat_takeS txR hx
      obtain ⟨X, hXe⟩ : ∃ X, X = txRs (rs.take k) := ⟨_, rfl⟩
      obtain ⟨nb, hnb⟩ : ∃ nb, x.name = mkS nb := ⟨bsOf x.name, (mkS_bs _).symm⟩
      obtain ⟨hd, hhd⟩ : ∃ hd, hd = txHd x := ⟨_, rfl⟩
      have HHD : Hid (ruleB ++ (nb ++ 32 :: Lib.itoa x.sal) = hd) := show _ = _ from by rw [hhd]; unfold txHd; rw [hnb, bs_mkS]
      have HXR : Hid (X ++ (hd ++ (txPs x.pats ++ (lineB ++ (thenB ++ (txAs x.exprs x.acts ++ [41, 10]))))) = txRs (rs.take (k + 1))) := show _ = _ from by rw [HLT.out, ← hXe, hhd]; rfl
      rw [← hXe] at hX ⊢
      rw [← hhd] at hhdl
      rw [hnb] at t0
      have hnl : nb.length ≤ 20 := by rw [hnb, mkS_size] at hnm; exact hnm
      have hX4 : X.length ≤ 42000000000 := by omega
      obtain ⟨wo, hwo⟩ : ∃ u, u = wr := ⟨wr, rfl⟩
      rw [← hwo] at HB hsz HPT HEX HAC t0 t1 t2 t3 t4 ⊢
      clear hpt hex hac hpp haa hx hXe hhd HLT hnm hnb hwo hX hlen
      go_upto_region 7 with fail
      refine lift_alloc ?_
      intro wb hWb hqb
      have hlt : wo.heap.size < wb.heap.size := lt_of_block' hqb
      have HBX := hidX hqb
      have e0 : wb.cell? ⟨wo.heap.size, 0, none⟩ = some (.string (mkS nb)) := by simp [World.cell?, hqb]
      have e1 : wb.cell? ⟨wo.heap.size, 1, none⟩ = some (.int .i64 x.sal) := by simp [World.cell?, hqb]
      have HBK := hidX (fun w' (h : Below wb.heap.size wb w') => (h.block _ hlt).trans HBX.out)
      clear hqb t0 t1 t2 t3 t4
      refine wp_region_noPanic ?_
      refine wp_region_held_drew (S := (fun w' => w'.cell? ⟨wo.heap.size, 0, none⟩ = some (.string (mkS nb)) ∧ w'.cell? ⟨wo.heap.size, 1, none⟩ = some (.int .i64 x.sal))) (by kernel_rfl) ?_ (fun hHeld => ?_)
      · (try dsimp only)
        exact ⟨e0, e1⟩
      refine tk 0 hHeld ?_
      (try simp only [pA, pZ, pS])
      refine tk 1 hHeld ?_
      (try simp only [pA, pZ, pS])
      refine tk 2 hHeld ?_
      (try simp only [pA, pZ, pS])
      refine tk 3 hHeld ?_ (hy := fun w' _ => by go_simp; rw [if_neg (by (repeat (first | rw [ByteArray.size_append] | rw [mkS_size] | rw [sz_one])); omega)])
      (try simp only [pA, pZ, pS])
      refine tk 4 hHeld ?_ (hy := fun w' _ => by go_simp; rw [if_neg (by (repeat (first | rw [ByteArray.size_append] | rw [mkS_size] | rw [sz_one])); omega)])
      (try simp only [pA, pZ, pS])
      refine tk 5 hHeld ?_
      (try simp only [pA, pZ, pS])
      refine tk 6 hHeld ?_
      (try simp only [pA, pZ, pS])
      refine wpAnyH_ready (rs := [7]) (by kernel_rfl) (by simp) ?_
      refine AllReadyH.cons (List.getElem?_toArray.trans rfl) (fun K hK => ?_) AllReadyH.nil
      go_simp
      go_at_call 10; refine (l1Dec_num x.sal _ hsal).mono ?_; rintro e' w2 ⟨rfl, hb2⟩
      (try go_wp2_with fail)
      refine hK.out _ _ ?hS1 (fun hHeld' => ?rest1)
      case hS1 => ((try dsimp only); exact ⟨cell_below hb2 hHeld.1, cell_below hb2 hHeld.2⟩)
      clear hK K
      (first | simp only [pA, pZ, pS] | simp only [pN] | skip)
      clear hHeld
      have hHeld := hHeld'
      clear hHeld'
      refine tk 8 hHeld ?_ (hy := fun w' _ => by go_simp; rw [if_neg (by (repeat (first | rw [ByteArray.size_append] | rw [mkS_size] | rw [sz_one])); omega)])
      (try simp only [pA, pZ, pS])
      refine tk 9 hHeld ?_ (hy := fun w' _ => by go_simp; rw [if_neg (by (repeat (first | rw [ByteArray.size_append] | rw [mkS_size] | rw [sz_one])); omega)])
      (try simp only [pA, pZ, pS])
      rw [catH, HHD.out]
      refine tk 10 hHeld ?_
      (try simp only [pA, pZ, pS])
      refine wpAnyH_done (by kernel_rfl) ?_ _
      refine NoPanic.normal ?_
      have HB2 := hidX (show Below wb.heap.size wb w2 from (Below.refl wb.heap.size wb).drew.trans (hb2.mono (by simp)))
      have hq := HBK.out w2 HB2.out
      have e2 : w2.cell? ⟨wo.heap.size, 2, none⟩ = some (.slice a1 x.pats.length c1) := by simp [World.cell?, hq]
      clear hq hb2 hHeld e0 e1
      go_wp2
      go_loopw [3, 34] (fun sv iv wr => ∃ j : Nat, j ≤ x.pats.length ∧ iv = .int .i64 (j : Int) ∧ sv = .string (mkS (X ++ (hd ++ txPs (x.pats.take j)))) ∧ Below wb.heap.size wb wr) (fun _ iv _ => x.pats.length - (intOf iv).toNat)
      case atStart => exact ⟨0, Nat.zero_le _, rfl, by simp [txPs], HB2.out⟩
      case round =>
        obtain ⟨j, hj, rfl, rfl, hbj⟩ := hrel
        have HBj := hidX hbj
        have hszj := hbj.size
        have hPj : (txPs (x.pats.take j)).length ≤ (txPs x.pats).length := flat_take_leY _ _ _
        have HWj := hidX (hWb.trans (hbj.mono hWb.size))
        clear hbj e2 HB2
        by_cases hjl : j < x.pats.length
        · obtain ⟨p, hp⟩ : ∃ p, x.pats[j]? = some p := ⟨x.pats[j], by simp [hjl]⟩
          have hpt := HPP.out p (List.mem_of_getElem? hp)
          obtain ⟨hcl, ht6, htt⟩ := hpt.get
          have hppl := txP_le hpt
          have htsl := txTs_le ht6 htt
          obtain ⟨b, o, a_t, c_t, rfl, _, u0, u1, u2, htm⟩ := (HPT.out.below HWj.out).get hp
          have HTM := hidX htm
          have HTT := hidX htt
          have i0 : (0 : Int) ≤ (j : Int) := by omega
          have i1 : (j : Int) < (x.pats.length : Int) := by omega
          obtain ⟨cb, hcb⟩ : ∃ cb, p.cls = mkS cb := ⟨bsOf p.cls, (mkS_bs _).symm⟩
          obtain ⟨Y, hY⟩ : ∃ Y, Y = X ++ (hd ++ txPs (x.pats.take j)) := ⟨_, rfl⟩
          have hYl : Y.length ≤ 43000000000 := by rw [hY, List.length_append, List.length_append]; omega
          obtain ⟨ng, hng⟩ : ∃ ng : Bs, ng = if p.neg then [110, 111, 116, 32] else [] := ⟨_, rfl⟩
          have hngl : ng.length ≤ 4 := by rw [hng]; cases p.neg <;> simp
          have HYN : Hid (Y ++ [10, 32, 32, 40] ++ ng ++ cb ++ txTs p.terms ++ [41] = X ++ (hd ++ txPs (x.pats.take (j + 1)))) := show _ = _ from by
            have h1 : txPs (x.pats.take (j + 1)) = txPs (x.pats.take j) ++ (lineB ++ txP p) := flat_takeS _ hp
            rw [h1, hY, hng]
            unfold txP
            rw [ngB, hcb, bs_mkS]
            simp [lineB]
          have hcbl : cb.length ≤ 20 := by rw [hcb, mkS_size] at hcl; exact hcl
          rw [hcb] at u1
          rw [← hY]
          have HNG := hidX hng
          clear htm htt hpt hp hY hcl hcb hng
          obtain ⟨wr1, hwr1⟩ : ∃ u, u = wr := ⟨wr, rfl⟩
          rw [← hwr1] at HBj hszj HWj HTM u0 u1 u2 ⊢
          clear hwr1
          have z1 : ¬ 9223372036854775807 < (mkS Y).size + 4 := by rw [mkS_size]; omega
          have z2 : ¬ 9223372036854775807 < (mkS Y).size + ({ data := #[10, 32, 32, 40] } : ByteArray).size := z1
          rcases (show p.neg = false ∨ p.neg = true by cases p.neg <;> simp) with hn | hn
          · rw [hn] at u0 HNG
            clear hn
            go_upto_region 14 with fail
            refine lift_alloc ?_
            intro wp hWp hqp
            have hltp : wr1.heap.size < wp.heap.size := lt_of_block' hqp
            have p1 : wp.cell? ⟨wr1.heap.size, 1, none⟩ = some (.string (mkS cb)) := by simp [World.cell?, hqp]
            have p2 : wp.cell? ⟨wr1.heap.size, 2, none⟩ = some (.slice a_t p.terms.length c_t) := by simp [World.cell?, hqp]
            clear hqp u0 u1 u2
            rw [catR Y [10, 32, 32, 40]]
            obtain ⟨Y2, hY2⟩ : ∃ Y2, Y2 = Y ++ [10, 32, 32, 40] := ⟨_, rfl⟩
            have hY2l : Y2.length ≤ 43000000008 := by rw [hY2, List.length_append]; simp; omega
            have HY2 : Hid (Y2 = Y ++ [10, 32, 32, 40] ++ ng) := show _ = _ from by rw [hY2, HNG.out]; simp
            rw [← hY2]
            clear hY2 z1 z2
            have z3 : ¬ 9223372036854775807 < (mkS Y2).size + (mkS cb).size := by rw [mkS_size, mkS_size]; omega
            go_upto_region 15 with fail
            rw [mkS_app Y2 cb]
            obtain ⟨Y3, hY3⟩ : ∃ Y3, Y3 = Y2 ++ cb := ⟨_, rfl⟩
            have hY3l : Y3.length ≤ 43000000028 := by rw [hY3, List.length_append]; omega
            have HY3 := hidX hY3
            rw [← hY3]
            clear hY3 z3
            have HBp := hidX (HBj.out.trans (hWp.mono hszj))
            have HWp2 := hidX (HWj.out.trans (hWp.mono HWj.out.size))
            have hszp := HBp.out.size
            go_wp2
            go_loopw [3, 51] (fun sv iv wr => ∃ i : Nat, i ≤ p.terms.length ∧ iv = .int .i64 (i : Int) ∧ sv = .string (mkS (Y3 ++ txTs (p.terms.take i))) ∧ Below wp.heap.size wp wr) (fun _ iv _ => p.terms.length - (intOf iv).toNat)
            case atStart => exact ⟨0, Nat.zero_le _, rfl, by simp [txTs], Below.refl _ _⟩
            case round =>
              obtain ⟨i, hi, rfl, rfl, hbi⟩ := hrel
              have HBi := hidX hbi
              have hszi := hbi.size
              have hTi : (txTs (p.terms.take i)).length ≤ (txTs p.terms).length := flat_take_leY _ _ _
              clear hbi p1 p2
              by_cases hil : i < p.terms.length
              · obtain ⟨t, ht⟩ : ∃ t, p.terms[i]? = some t := ⟨p.terms[i], by simp [hil]⟩
                obtain ⟨hgt, hnt⟩ := HTT.out t (List.mem_of_getElem? ht)
                have htl := txT_le hgt hnt
                obtain ⟨b, o, rfl, _, v0, v1, v2, v3, v4, v5⟩ := ((HTM.out.below hWp).below HBi.out).get ht
                have j0 : (0 : Int) ≤ (i : Int) := by omega
                have j1 : (i : Int) < (p.terms.length : Int) := by omega
                have HLI : Hid (Y3 ++ txTs (p.terms.take (i + 1)) = (Y3 ++ txTs (p.terms.take i)) ++ 32 :: txT t) := show _ = _ from by rw [show txTs (p.terms.take (i + 1)) = txTs (p.terms.take i) ++ (32 :: txT t) from flat_takeS _ ht, List.append_assoc]
                have HA := hidX (fun o => (Below.refl _ _).alloc (Nat.le_refl _) o : ∀ o, Below wr.heap.size wr (wr.alloc o))
                obtain ⟨V, hV⟩ : ∃ V, V = Y3 ++ txTs (p.terms.take i) := ⟨_, rfl⟩
                have hVl : V.length ≤ 43000001000 := by rw [hV, List.length_append]; omega
                rw [← hV] at HLI
                rw [← hV]
                have z1 : ¬ 9223372036854775807 < 1 + (mkS (txT t)).size := by rw [mkS_size]; omega
                have z2 : ¬ 9223372036854775807 < (mkS V).size + (({ data := #[32] } : ByteArray) ++ mkS (txT t)).size := by rw [ByteArray.size_append, mkS_size, mkS_size, sz_one]; omega
                have z3 : ¬ 9223372036854775807 < (mkS V).size + (1 + (mkS (txT t)).size) := by rw [mkS_size, mkS_size]; omega
                clear ht hV hTi
                go_wp2_with (go_at_call 11; refine (l2Term_txt t _ hgt hnt).mono ?_; rintro e w5 ⟨rfl, hb5⟩)
                go_roundw
                case rel => exact ⟨i + 1, by omega, by go_num, by rw [cat_sp, HLI.out], HBi.out.trans (((HA.out _).trans (hb5.mono (HA.out _).size)).mono hszi)⟩
                case measure => (simp [intOf]; omega)
              · obtain rfl : i = p.terms.length := by omega
                have j1 : ¬ (p.terms.length : Int) < (p.terms.length : Int) := by omega
                rw [List.take_length]
                obtain ⟨V, hV⟩ : ∃ V, V = Y3 ++ txTs p.terms := ⟨_, rfl⟩
                have hVl : V.length ≤ 43000001000 := by rw [hV, List.length_append]; omega
                have HVV := hidX hV
                rw [← hV]
                have z1 : ¬ 9223372036854775807 < (mkS V).size + 1 := by rw [mkS_size]; omega
                have z2 : ¬ 9223372036854775807 < (mkS V).size + ({ data := #[41] } : ByteArray).size := z1
                clear hV hTi
                go_wp2
                go_roundw
                case rel => exact ⟨j + 1, by omega, by go_num, by rw [catR V [41], HVV.out, HY3.out, HY2.out, HYN.out], HBp.out.trans (HBi.out.mono hszp)⟩
                case measure => (simp [intOf]; omega)
          · rw [hn] at u0 HNG
            clear hn
            go_upto_region 13 with fail
            refine lift_alloc ?_
            intro wp hWp hqp
            have hltp : wr1.heap.size < wp.heap.size := lt_of_block' hqp
            have p1 : wp.cell? ⟨wr1.heap.size, 1, none⟩ = some (.string (mkS cb)) := by simp [World.cell?, hqp]
            have p2 : wp.cell? ⟨wr1.heap.size, 2, none⟩ = some (.slice a_t p.terms.length c_t) := by simp [World.cell?, hqp]
            clear hqp u0 u1 u2
            rw [catR Y [10, 32, 32, 40]]
            obtain ⟨Y1, hY1⟩ : ∃ Y1, Y1 = Y ++ [10, 32, 32, 40] := ⟨_, rfl⟩
            have hY1l : Y1.length ≤ 43000000004 := by rw [hY1, List.length_append]; simp; omega
            have HY1 := hidX hY1
            rw [← hY1]
            clear hY1 z1 z2
            have z1 : ¬ 9223372036854775807 < (mkS Y1).size + 4 := by rw [mkS_size]; omega
            have z2 : ¬ 9223372036854775807 < (mkS Y1).size + ({ data := #[110, 111, 116, 32] } : ByteArray).size := z1
            go_upto_region 14 with fail
            rw [catR Y1 [110, 111, 116, 32]]
            obtain ⟨Y2, hY2⟩ : ∃ Y2, Y2 = Y1 ++ [110, 111, 116, 32] := ⟨_, rfl⟩
            have hY2l : Y2.length ≤ 43000000008 := by rw [hY2, List.length_append]; simp; omega
            have HY2 : Hid (Y2 = Y ++ [10, 32, 32, 40] ++ ng) := show _ = _ from by rw [hY2, HY1.out, HNG.out]; rfl
            rw [← hY2]
            clear hY2 z1 z2
            have z3 : ¬ 9223372036854775807 < (mkS Y2).size + (mkS cb).size := by rw [mkS_size, mkS_size]; omega
            go_upto_region 15 with fail
            rw [mkS_app Y2 cb]
            obtain ⟨Y3, hY3⟩ : ∃ Y3, Y3 = Y2 ++ cb := ⟨_, rfl⟩
            have hY3l : Y3.length ≤ 43000000028 := by rw [hY3, List.length_append]; omega
            have HY3 := hidX hY3
            rw [← hY3]
            clear hY3 z3
            have HBp := hidX (HBj.out.trans (hWp.mono hszj))
            have HWp2 := hidX (HWj.out.trans (hWp.mono HWj.out.size))
            have hszp := HBp.out.size
            go_wp2
            go_loopw [3, 51] (fun sv iv wr => ∃ i : Nat, i ≤ p.terms.length ∧ iv = .int .i64 (i : Int) ∧ sv = .string (mkS (Y3 ++ txTs (p.terms.take i))) ∧ Below wp.heap.size wp wr) (fun _ iv _ => p.terms.length - (intOf iv).toNat)
            case atStart => exact ⟨0, Nat.zero_le _, rfl, by simp [txTs], Below.refl _ _⟩
            case round =>
              obtain ⟨i, hi, rfl, rfl, hbi⟩ := hrel
              have HBi := hidX hbi
              have hszi := hbi.size
              have hTi : (txTs (p.terms.take i)).length ≤ (txTs p.terms).length := flat_take_leY _ _ _
              clear hbi p1 p2
              by_cases hil : i < p.terms.length
              · obtain ⟨t, ht⟩ : ∃ t, p.terms[i]? = some t := ⟨p.terms[i], by simp [hil]⟩
                obtain ⟨hgt, hnt⟩ := HTT.out t (List.mem_of_getElem? ht)
                have htl := txT_le hgt hnt
                obtain ⟨b, o, rfl, _, v0, v1, v2, v3, v4, v5⟩ := ((HTM.out.below hWp).below HBi.out).get ht
                have j0 : (0 : Int) ≤ (i : Int) := by omega
                have j1 : (i : Int) < (p.terms.length : Int) := by omega
                have HLI : Hid (Y3 ++ txTs (p.terms.take (i + 1)) = (Y3 ++ txTs (p.terms.take i)) ++ 32 :: txT t) := show _ = _ from by rw [show txTs (p.terms.take (i + 1)) = txTs (p.terms.take i) ++ (32 :: txT t) from flat_takeS _ ht, List.append_assoc]
                have HA := hidX (fun o => (Below.refl _ _).alloc (Nat.le_refl _) o : ∀ o, Below wr.heap.size wr (wr.alloc o))
                obtain ⟨V, hV⟩ : ∃ V, V = Y3 ++ txTs (p.terms.take i) := ⟨_, rfl⟩
                have hVl : V.length ≤ 43000001000 := by rw [hV, List.length_append]; omega
                rw [← hV] at HLI
                rw [← hV]
                have z1 : ¬ 9223372036854775807 < 1 + (mkS (txT t)).size := by rw [mkS_size]; omega
                have z2 : ¬ 9223372036854775807 < (mkS V).size + (({ data := #[32] } : ByteArray) ++ mkS (txT t)).size := by rw [ByteArray.size_append, mkS_size, mkS_size, sz_one]; omega
                have z3 : ¬ 9223372036854775807 < (mkS V).size + (1 + (mkS (txT t)).size) := by rw [mkS_size, mkS_size]; omega
                clear ht hV hTi
                go_wp2_with (go_at_call 11; refine (l2Term_txt t _ hgt hnt).mono ?_; rintro e w5 ⟨rfl, hb5⟩)
                go_roundw
                case rel => exact ⟨i + 1, by omega, by go_num, by rw [cat_sp, HLI.out], HBi.out.trans (((HA.out _).trans (hb5.mono (HA.out _).size)).mono hszi)⟩
                case measure => (simp [intOf]; omega)
              · obtain rfl : i = p.terms.length := by omega
                have j1 : ¬ (p.terms.length : Int) < (p.terms.length : Int) := by omega
                rw [List.take_length]
                obtain ⟨V, hV⟩ : ∃ V, V = Y3 ++ txTs p.terms := ⟨_, rfl⟩
                have hVl : V.length ≤ 43000001000 := by rw [hV, List.length_append]; omega
                have HVV := hidX hV
                rw [← hV]
                have z1 : ¬ 9223372036854775807 < (mkS V).size + 1 := by rw [mkS_size]; omega
                have z2 : ¬ 9223372036854775807 < (mkS V).size + ({ data := #[41] } : ByteArray).size := z1
                clear hV hTi
                go_wp2
                go_roundw
                case rel => exact ⟨j + 1, by omega, by go_num, by rw [catR V [41], HVV.out, HY3.out, HY2.out, HYN.out], HBp.out.trans (HBi.out.mono hszp)⟩
                case measure => (simp [intOf]; omega)
        · obtain rfl : j = x.pats.length := by omega
          have i1 : ¬ (x.pats.length : Int) < (x.pats.length : Int) := by omega
          rw [List.take_length]
          obtain ⟨Y, hY⟩ : ∃ Y, Y = X ++ (hd ++ txPs x.pats) := ⟨_, rfl⟩
          have hYl : Y.length ≤ 43000000000 := by rw [hY, List.length_append, List.length_append]; omega
          have HY := hidX hY
          rw [← hY]
          clear hY hPj
          obtain ⟨wr1, hwr1⟩ : ∃ u, u = wr := ⟨wr, rfl⟩
          rw [← hwr1] at HBj hszj HWj ⊢
          clear hwr1
          have z1 : ¬ 9223372036854775807 < (mkS Y).size + 5 := by rw [mkS_size]; omega
          have z2 : ¬ 9223372036854775807 < (mkS Y).size + ({ data := #[10, 32, 32, 61, 62] } : ByteArray).size := z1
          go_upto_region 23 with fail
          rw [catR Y [10, 32, 32, 61, 62]]
          obtain ⟨Z, hZ⟩ : ∃ Z, Z = Y ++ [10, 32, 32, 61, 62] := ⟨_, rfl⟩
          have hZl : Z.length ≤ 43100000000 := by rw [hZ, List.length_append]; simp; omega
          have HZ := hidX hZ
          rw [← hZ]
          clear hZ
          have hq := HBK.out wr1 HBj.out
          have e4 : wr1.cell? ⟨wo.heap.size, 4, none⟩ = some (.slice a3 x.acts.length c3) := by simp [World.cell?, hq]
          clear hq z1 z2
          go_wp2
          go_loopw [3, 69] (fun sv iv wr => ∃ m : Nat, m ≤ x.acts.length ∧ iv = .int .i64 (m : Int) ∧ sv = .string (mkS (Z ++ txAs x.exprs (x.acts.take m))) ∧ Below wb.heap.size wb wr) (fun _ iv _ => x.acts.length - (intOf iv).toNat)
          case atStart => exact ⟨0, Nat.zero_le _, rfl, by simp [txAs], HBj.out⟩
          case round =>
            obtain ⟨m, hm, rfl, rfl, hbm⟩ := hrel
            have HBm := hidX hbm
            have hszm := hbm.size
            have HWm := hidX (hWb.trans (hbm.mono hWb.size))
            have hAm : (txAs x.exprs (x.acts.take m)).length ≤ (txAs x.exprs x.acts).length := flat_take_leY _ _ _
            have hq := HBK.out wr hbm
            have f0 : wr.cell? ⟨wo.heap.size, 0, none⟩ = some (.string (mkS nb)) := by simp [World.cell?, hq]
            have f1 : wr.cell? ⟨wo.heap.size, 1, none⟩ = some (.int .i64 x.sal) := by simp [World.cell?, hq]
            have f2 : wr.cell? ⟨wo.heap.size, 2, none⟩ = some (.slice a1 x.pats.length c1) := by simp [World.cell?, hq]
            have f3 : wr.cell? ⟨wo.heap.size, 3, none⟩ = some (.slice a2 x.exprs.length c2) := by simp [World.cell?, hq]
            have f4 : wr.cell? ⟨wo.heap.size, 4, none⟩ = some (.slice a3 x.acts.length c3) := by simp [World.cell?, hq]
            clear hq hbm e4 HBj
            by_cases hml : m < x.acts.length
            · obtain ⟨y, hy⟩ : ∃ p, x.acts[m]? = some p := ⟨x.acts[m], by simp [hml]⟩
              have hyt := HAA.out y (List.mem_of_getElem? hy)
              have hyl := txA_le hES hyt
              obtain ⟨b, o, a_g, c_g, rfl, _, v0, v1, v2, v3, htm⟩ := (HAC.out.below HWm.out).get hy
              have HTM := hidX htm
              have i0 : (0 : Int) ≤ (m : Int) := by omega
              have i1 : (m : Int) < (x.acts.length : Int) := by omega
              have HLT : Hid (Z ++ txAs x.exprs (x.acts.take (m + 1)) = (Z ++ txAs x.exprs (x.acts.take m)) ++ (lineB ++ txA x.exprs y)) := show _ = _ from by rw [show txAs x.exprs (x.acts.take (m + 1)) = txAs x.exprs (x.acts.take m) ++ (lineB ++ txA x.exprs y) from flat_takeS _ hy, List.append_assoc]
              have HA := hidX (fun o => (Below.refl _ _).alloc (Nat.le_refl _) o : ∀ o, Below wr.heap.size wr (wr.alloc o))
              have HER := hidX (fun o => (HEX.out.below HWm.out).below (HA.out o))
              obtain ⟨V, hV⟩ : ∃ V, V = Z ++ txAs x.exprs (x.acts.take m) := ⟨_, rfl⟩
              obtain ⟨T, hTe⟩ : ∃ T, T = txA x.exprs y := ⟨_, rfl⟩
              have hVl : V.length ≤ 46000000000 := by rw [hV, List.length_append]; omega
              rw [← hV, ← hTe] at HLT
              rw [← hTe] at hyl
              rw [← hV]
              have LA : Hid (∀ w', ExsAt q w' a2 x.exprs → IntsAt q w' a_g y.args → Calls Tryz.prog 12 #[.agg #[.string (mkS nb), .int .i64 x.sal, .slice a1 x.pats.length c1, .slice a2 x.exprs.length c2, .slice (some ⟨b, o, none⟩) x.acts.length c3], .agg #[.int .i64 y.kind, .int .i64 y.k, .string y.cls, .slice a_g y.args.length c_g]] w' fun e w'' => e = .returned (.string (mkS T)) ∧ Below w'.heap.size w' w'') := fun w' h1 h2 => by rw [hTe]; exact lAct_any (mkS nb) x.sal a1 _ c1 (some ⟨b, o, none⟩) _ c3 y a_g c_g hES hyt a2 c2 q w' h1 h2
              have z1 : ¬ 9223372036854775807 < 3 + (mkS T).size := by rw [mkS_size]; omega
              have z2 : ¬ 9223372036854775807 < (mkS V).size + (({ data := #[10, 32, 32] } : ByteArray) ++ mkS T).size := by rw [ByteArray.size_append, mkS_size, mkS_size]; have : ({ data := #[10, 32, 32] } : ByteArray).size = 3 := rfl; omega
              have z3 : ¬ 9223372036854775807 < (mkS V).size + (3 + (mkS T).size) := by rw [mkS_size, mkS_size]; omega
              have hwl : wo.heap.size < wr.heap.size := by omega
              clear hy htm hV hTe hAm
              go_wp2_with (go_at_call 12; refine (LA.out _ (HER.out _) (HTM.out.below (HA.out _))).mono ?_; rintro e w5 ⟨rfl, hb5⟩)
              go_roundw
              case rel => exact ⟨m + 1, by omega, by go_num, by rw [catL, HLT.out], HBm.out.trans (((HA.out _).trans (hb5.mono (HA.out _).size)).mono hszm)⟩
              case measure => (simp [intOf]; omega)
            · obtain rfl : m = x.acts.length := by omega
              have i1 : ¬ (x.acts.length : Int) < (x.acts.length : Int) := by omega
              rw [List.take_length]
              obtain ⟨V, hV⟩ : ∃ V, V = Z ++ txAs x.exprs x.acts := ⟨_, rfl⟩
              have hVl : V.length ≤ 46000000000 := by rw [hV, List.length_append]; omega
              have HVV := hidX hV
              rw [← hV]
              have z1 : ¬ 9223372036854775807 < (mkS V).size + 2 := by rw [mkS_size]; omega
              have z2 : ¬ 9223372036854775807 < (mkS V).size + ({ data := #[41, 10] } : ByteArray).size := z1
              have HF := hidX (show Below w.heap.size w wr from HB.out.trans (HWm.out.mono hsz))
              clear hV hAm
              go_wp2
              go_roundw
              case rel => exact ⟨k + 1, by omega, by go_num, by rw [catR V [41, 10], HVV.out, HZ.out, HY.out, ← HXR.out]; simp [lineB, thenB], HF.out⟩
              case measure => (simp [intOf]; omega)
    · obtain rfl : k = rs.length := by omega
      have i1 : ¬ (rs.length : Int) < (rs.length : Int) := by omega
      rw [List.take_length]
      have hcv := Lib.run_convert_string_bytes wr 9 22 5 (mkS (txRs rs)) Tryz.underlying9 Tryz.underlying22 Tryz.underlying5
      rw [mkS_size] at hcv
      have HBW := hidX (Lib.bytesWorld_below wr 5 (mkS (txRs rs)))
      have HGE := hidX (grownCap_ge wr (txRs rs).length 0 5)
      have HGM := hidX (grownCap_le_maxLen wr (txRs rs).length 0 5 (by unfold maxLen; omega))
      go_wp2
      go_ret
      refine ⟨⟨_, rfl, wr.heap.size, _, Lib.bytesCells wr 5 (mkS (txRs rs)), _, rfl, hsz, Lib.bytesWorld_at_new wr 5 (mkS (txRs rs)), .inr (Nat.le_refl _), HGE.out, HGM.out, ?_, ?_⟩, HB.out.trans (HBW.out.mono hsz)⟩
      · have h1 := HGE.out
        have h2 : (mkS (txRs rs)).size = (txRs rs).length := mkS_size _
        have h3 : (mkS (txRs rs)).data.size = (txRs rs).length := by simp [mkS]
        unfold Lib.bytesCells
        rw [Array.size_append, Array.size_map, Array.size_replicate, h2, h3]
        omega
      · have e : (Lib.bytesCells wr 5 (mkS (txRs rs))).toList = byV (txRs rs) ++ List.replicate (grownCap wr (txRs rs).length 0 5 - (txRs rs).length) (.int .u8 0) := by
          have h2 : (mkS (txRs rs)).size = (txRs rs).length := mkS_size _
          unfold Lib.bytesCells
          rw [Array.toList_append, Array.toList_map, Array.toList_replicate, h2]
          rfl
        rw [e]
        have h2 := byV_len (txRs rs)
        rw [← h2]
        exact List.take_left
end Go.Proofs.YtgkoiojelckblaaGreatDoor
