/-
  OUR OWN TEXT. The model's exprs as texts (its drawn region by gentx14.py).
-/
import Derived.Test.YtfgpcjdjbbhdmaaGreatDoorTx4m
import Derived.Test.YtfgpcjdjbbhdmaaGreatDoorZs
import Derived.Deep.DeepCutAuto
namespace Go.Proofs.YtfgpcjdjbbhdmaaGreatDoor
open Go.RowKit
attribute [local go_sem ↓] Go.wp_at_zero Go.wp_at_succ

theorem lift_bel {P : World → Prop} {w u : World} (hu : Below w.heap.size w u) (h : ∀ wt, Below w.heap.size w wt → P wt) : P u := h u hu
theorem cat8 (x : UInt8) (a b : Bs) : ({ data := #[40] } : ByteArray) ++ mkS [x] ++ { data := #[32] } ++ mkS a ++ { data := #[32] } ++ mkS b ++ { data := #[41] } = mkS (40 :: x :: 32 :: (a ++ 32 :: (b ++ [41]))) := by
  have e : ∀ x : UInt8, ({ data := #[x] } : ByteArray) = mkS [x] := fun _ => rfl
  rw [e, e, e, mkS_app, mkS_app, mkS_app, mkS_app, mkS_app, mkS_app]
  simp

set_option maxHeartbeats 3200000 in
theorem lExpr_step {es : List Ex} {S : List Sp} (hT : ExT es S) (a : Option Addr) (c : Nat) (q : Option Nat) (n : Nat)
    (IH : ∀ (i : Nat) (w : World), ExsAt q w a es → i < n → i < es.length → Calls Tryz.prog 86 #[.slice a es.length c, .int .i64 (i : Int)] w fun e w' => e = .returned (.string (mkS (txE n es i))) ∧ Below w.heap.size w w')
    (i : Nat) (w : World) (hE : ExsAt q w a es) (hin : i < n + 1) (hi : i < es.length) : Calls Tryz.prog 86 #[.slice a es.length c, .int .i64 (i : Int)] w fun e w' => e = .returned (.string (mkS (txE (n + 1) es i))) ∧ Below w.heap.size w w' := by
  obtain ⟨e, he⟩ : ∃ e, es[i]? = some e := ⟨es[i], by simp [hi]⟩
  obtain ⟨b, o, rfl, _, d0, d1, d2, d3, d4, d5, d6, d7⟩ := hE.get he
  have hX := txE_one n es i e he
  have hn := hT.2.2.2 e (List.mem_of_getElem? he)
  have HI := hidX IH
  have i0 : (0 : Int) ≤ (i : Int) := by omega
  have i1 : (i : Int) < (es.length : Int) := by omega
  rcases hT.kind he with ⟨k, hv⟩ | ⟨k, hv⟩ | ⟨k, _, pa, pb, ea, eb, hpa, hpb⟩
  · have HX : Hid (txV e.val = txE (n + 1) es i) := show _ = _ from by rw [hX, if_neg (by omega), if_neg (by omega)]
    rw [k] at d0
    clear hX k he IH hE
    go_enter Tryz.func86, Tryz.ntmps86
    go_upto_region 4 with fail
    refine lift_alloc ?_
    intro wb hWb hqb
    have c3 : wb.cell? ⟨w.heap.size, 3, none⟩ = some (.int .i64 e.val.kind) := by simp [World.cell?, hqb]
    have c4 : wb.cell? ⟨w.heap.size, 4, none⟩ = some (.int .i64 e.val.num) := by simp [World.cell?, hqb]
    have c5 : wb.cell? ⟨w.heap.size, 5, none⟩ = some (.string e.val.sym) := by simp [World.cell?, hqb]
    clear hqb
    go_wp2_with (go_at_call 84; refine (l2Val_txt e.val _ hn).mono ?_; rintro e' w1 ⟨rfl, hb1⟩)
    go_ret
    exact ⟨ret_txt HX.out, hWb.trans (hb1.mono hWb.size)⟩
  · have HX : Hid (63 :: bsOf e.var = txE (n + 1) es i) := show _ = _ from by rw [hX, if_pos k]
    have hs : ¬ 9223372036854775807 < ({ data := #[63] } : ByteArray).size + e.var.size := by
      have := gSym_sz hv
      have : ({ data := #[63] } : ByteArray).size = 1 := rfl
      omega
    rw [k] at d0
    clear hX k he IH hE
    have hA : ∀ o, Below w.heap.size w (w.alloc o) := fun o => (Below.refl _ _).alloc (Nat.le_refl _) _
    go_enter Tryz.func86, Tryz.ntmps86
    go_wp2
    go_ret
    refine ⟨?_, hA _⟩
    rw [← HX.out]
    exact congrArg (fun x => Ending.returned (.string x)) (mkS_app' e.var [63])
  · have hla : pa < es.length := by omega
    have hlb : pb < es.length := by omega
    have sA := txE_short hT n pa hla
    have sB := txE_short hT n pb hlb
    obtain ⟨A, hAe⟩ : ∃ A, A = txE n es pa := ⟨_, rfl⟩
    obtain ⟨B, hBe⟩ : ∃ B, B = txE n es pb := ⟨_, rfl⟩
    have HX : Hid (40 :: UInt8.ofNat e.op.toNat :: 32 :: (A ++ 32 :: (B ++ [41])) = txE (n + 1) es i) := show _ = _ from by rw [hX, if_neg (by omega), if_pos k, ea, eb, hAe, hBe]; rfl
    have HA : Hid (∀ w', ExsAt q w' (some ⟨b, o, none⟩) es → Calls Tryz.prog 86 #[.slice (some ⟨b, o, none⟩) es.length c, .int .i64 (pa : Int)] w' fun e w'' => e = .returned (.string (mkS A)) ∧ Below w'.heap.size w' w'') := fun w' h => by rw [hAe]; exact HI.out pa w' h (by omega) hla
    have HB : Hid (∀ w', ExsAt q w' (some ⟨b, o, none⟩) es → Calls Tryz.prog 86 #[.slice (some ⟨b, o, none⟩) es.length c, .int .i64 (pb : Int)] w' fun e w'' => e = .returned (.string (mkS B)) ∧ Below w'.heap.size w' w'') := fun w' h => by rw [hBe]; exact HI.out pb w' h (by omega) hlb
    rw [← hAe] at sA
    rw [← hBe] at sB
    rw [k] at d0
    rw [ea] at d6
    rw [eb] at d7
    clear hX k he ea eb hAe hBe IH HI hn
    go_enter Tryz.func86, Tryz.ntmps86
    go_upto_region 7 with fail
    refine lift_alloc ?_
    intro wb hWb hqb
    have c1 : wb.cell? ⟨w.heap.size, 1, none⟩ = some (.int .u8 e.op) := by simp [World.cell?, hqb]
    have c6 : wb.cell? ⟨w.heap.size, 6, none⟩ = some (.int .i64 (pa : Int)) := by simp [World.cell?, hqb]
    have c7 : wb.cell? ⟨w.heap.size, 7, none⟩ = some (.int .i64 (pb : Int)) := by simp [World.cell?, hqb]
    have HE := hidX (hE.below hWb)
    clear hqb d0 d1 d2 d3 d4 d5 d6 d7 hE
    refine wp_region_noPanic ?_
    refine wp_region_held_drew (S := (fun w' => w'.cell? ⟨w.heap.size, 1, none⟩ = some (.int .u8 e.op) ∧ w'.cell? ⟨w.heap.size, 6, none⟩ = some (.int .i64 (pa : Int)) ∧ w'.cell? ⟨w.heap.size, 7, none⟩ = some (.int .i64 (pb : Int)))) (by kernel_rfl) ?_ (fun hHeld => ?_)
    · (try dsimp only)
      exact ⟨c1, c6, c7⟩
    refine lift_bel (w := wb) (Below.refl _ _).drew ?_
    intro w0 hW0
    replace hHeld : (fun w' => w'.cell? ⟨w.heap.size, 1, none⟩ = some (.int .u8 e.op) ∧ w'.cell? ⟨w.heap.size, 6, none⟩ = some (.int .i64 (pa : Int)) ∧ w'.cell? ⟨w.heap.size, 7, none⟩ = some (.int .i64 (pb : Int))) w0 := ⟨cell_below hW0 c1, cell_below hW0 c6, cell_below hW0 c7⟩
    have B0 := hidX hW0
    have Sw0 := hidX (fun w' (h : Below w0.heap.size w0 w') => (show (fun w' => w'.cell? ⟨w.heap.size, 1, none⟩ = some (.int .u8 e.op) ∧ w'.cell? ⟨w.heap.size, 6, none⟩ = some (.int .i64 (pa : Int)) ∧ w'.cell? ⟨w.heap.size, 7, none⟩ = some (.int .i64 (pb : Int))) w' from ⟨cell_below h hHeld.1, cell_below h hHeld.2.1, cell_below h hHeld.2.2⟩))
    refine tk 0 hHeld ?_
    (try simp only [pA, pZ, pS])
    refine tk 1 hHeld ?_
    (try simp only [pA, pZ, pS])
    refine tk 6 hHeld ?_
    (try simp only [pA, pZ, pS])
    refine tk 7 hHeld ?_
    (try simp only [pA, pZ, pS])
    refine tk 8 hHeld ?_
    (try simp only [pA, pZ, pS])
    refine tk 12 hHeld ?_
    (try simp only [pA, pZ, pS])
    refine tk 13 hHeld ?_
    (try simp only [pA, pZ, pS])
    refine tk 14 hHeld ?_
    (try simp only [pA, pZ, pS])
    refine wpAnyH_ready (rs := [2, 9]) (by kernel_rfl) (by simp) (AllReadyH.cons (List.getElem?_toArray.trans rfl) (fun K hK => ?_) (AllReadyH.cons (List.getElem?_toArray.trans rfl) (fun K hK => ?_) AllReadyH.nil))
    · go_simp
      refine hK.out _ _ ?hS1 (fun hHeld' => ?rest1)
      case hS1 => ((try dsimp only); exact ⟨cell_below ((Below.refl _ _).alloc (Nat.le_refl _) _) hHeld.1, cell_below ((Below.refl _ _).alloc (Nat.le_refl _) _) hHeld.2.1, cell_below ((Below.refl _ _).alloc (Nat.le_refl _) _) hHeld.2.2⟩)
      clear hK K
      (first | simp only [pA, pZ, pS] | simp only [pN] | skip)
      clear hHeld
      have hHeld := hHeld'
      clear hHeld'
      refine lift_alloc ?_
      intro w1 hW1 hq1
      have b1 : w1.cell? ⟨w0.heap.size, 0, none⟩ = some (.int .u8 e.op) := by simp [World.cell?, hq1]
      have B1 := hidX (B0.out.trans (hW1.mono B0.out.size))
      replace hHeld : (fun w' => w'.cell? ⟨w.heap.size, 1, none⟩ = some (.int .u8 e.op) ∧ w'.cell? ⟨w.heap.size, 6, none⟩ = some (.int .i64 (pa : Int)) ∧ w'.cell? ⟨w.heap.size, 7, none⟩ = some (.int .i64 (pb : Int))) w1 := Sw0.out w1 hW1
      have Sw1 := hidX (fun w' (h : Below w1.heap.size w1 w') => (show (fun w' => w'.cell? ⟨w.heap.size, 1, none⟩ = some (.int .u8 e.op) ∧ w'.cell? ⟨w.heap.size, 6, none⟩ = some (.int .i64 (pa : Int)) ∧ w'.cell? ⟨w.heap.size, 7, none⟩ = some (.int .i64 (pb : Int))) w' from ⟨cell_below h hHeld.1, cell_below h hHeld.2.1, cell_below h hHeld.2.2⟩))
      clear hq1
      refine wpAnyH_ready (rs := [3, 9]) (by kernel_rfl) (by simp) (AllReadyH.cons (List.getElem?_toArray.trans rfl) (fun K hK => ?_) (AllReadyH.cons (List.getElem?_toArray.trans rfl) (fun K hK => ?_) AllReadyH.nil))
      · have hcv2 := run_convT e.op w1 w0.heap.size b1
        go_simp
        refine hK.out _ _ ?hS2 (fun hHeld' => ?rest2)
        case hS2 => ((try dsimp only); exact hHeld)
        clear hK K
        (first | simp only [pA, pZ, pS] | simp only [pN] | skip)
        clear hHeld
        have hHeld := hHeld'
        clear hHeld'
        clear hcv2
        refine tk 4 hHeld ?_ (hy := fun w' _ => by go_simp; rw [if_neg (by (repeat (first | rw [ByteArray.size_append] | rw [mkS_size] | rw [sz_one] | rw [List.length_singleton])); omega)])
        (try simp only [pA, pZ, pS])
        refine tk 5 hHeld ?_ (hy := fun w' _ => by go_simp; rw [if_neg (by (repeat (first | rw [ByteArray.size_append] | rw [mkS_size] | rw [sz_one] | rw [List.length_singleton])); omega)])
        (try simp only [pA, pZ, pS])
        refine wpAnyH_ready (rs := [9]) (by kernel_rfl) (by simp) (AllReadyH.cons (List.getElem?_toArray.trans rfl) (fun K hK => ?_) AllReadyH.nil)
        go_simp
        go_at_call 86; refine (HA.out w1 (HE.out.below B1.out)).mono ?_; rintro e' w3 ⟨rfl, hb3⟩
        (try go_wp2_with fail)
        refine hK.out _ _ ?hS3 (fun hHeld' => ?rest3)
        case hS3 => ((try dsimp only); exact ⟨cell_below hb3 hHeld.1, cell_below hb3 hHeld.2.1, cell_below hb3 hHeld.2.2⟩)
        clear hK K
        (first | simp only [pA, pZ, pS] | simp only [pN] | skip)
        clear hHeld
        have hHeld := hHeld'
        clear hHeld'
        have B3 := hidX (B1.out.trans (hb3.mono B1.out.size))
        have Sw3 := hidX (fun w' (h : Below w3.heap.size w3 w') => (show (fun w' => w'.cell? ⟨w.heap.size, 1, none⟩ = some (.int .u8 e.op) ∧ w'.cell? ⟨w.heap.size, 6, none⟩ = some (.int .i64 (pa : Int)) ∧ w'.cell? ⟨w.heap.size, 7, none⟩ = some (.int .i64 (pb : Int))) w' from ⟨cell_below h hHeld.1, cell_below h hHeld.2.1, cell_below h hHeld.2.2⟩))
        have b3 := cell_below hb3 b1
        refine tk 10 hHeld ?_ (hy := fun w' _ => by go_simp; rw [if_neg (by (repeat (first | rw [ByteArray.size_append] | rw [mkS_size] | rw [sz_one] | rw [List.length_singleton])); omega)])
        (try simp only [pA, pZ, pS])
        refine tk 11 hHeld ?_ (hy := fun w' _ => by go_simp; rw [if_neg (by (repeat (first | rw [ByteArray.size_append] | rw [mkS_size] | rw [sz_one] | rw [List.length_singleton])); omega)])
        (try simp only [pA, pZ, pS])
        refine wpAnyH_ready (rs := [15]) (by kernel_rfl) (by simp) (AllReadyH.cons (List.getElem?_toArray.trans rfl) (fun K hK => ?_) AllReadyH.nil)
        go_simp
        go_at_call 86; refine (HB.out w3 (HE.out.below B3.out)).mono ?_; rintro e' w4 ⟨rfl, hb4⟩
        (try go_wp2_with fail)
        refine hK.out _ _ ?hS4 (fun hHeld' => ?rest4)
        case hS4 => ((try dsimp only); exact ⟨cell_below hb4 hHeld.1, cell_below hb4 hHeld.2.1, cell_below hb4 hHeld.2.2⟩)
        clear hK K
        (first | simp only [pA, pZ, pS] | simp only [pN] | skip)
        clear hHeld
        have hHeld := hHeld'
        clear hHeld'
        have B4 := hidX (B3.out.trans (hb4.mono B3.out.size))
        have Sw4 := hidX (fun w' (h : Below w4.heap.size w4 w') => (show (fun w' => w'.cell? ⟨w.heap.size, 1, none⟩ = some (.int .u8 e.op) ∧ w'.cell? ⟨w.heap.size, 6, none⟩ = some (.int .i64 (pa : Int)) ∧ w'.cell? ⟨w.heap.size, 7, none⟩ = some (.int .i64 (pb : Int))) w' from ⟨cell_below h hHeld.1, cell_below h hHeld.2.1, cell_below h hHeld.2.2⟩))
        have b4 := cell_below hb4 b3
        refine tk 16 hHeld ?_ (hy := fun w' _ => by go_simp; rw [if_neg (by (repeat (first | rw [ByteArray.size_append] | rw [mkS_size] | rw [sz_one] | rw [List.length_singleton])); omega)])
        (try simp only [pA, pZ, pS])
        refine tk 17 hHeld ?_ (hy := fun w' _ => by go_simp; rw [if_neg (by (repeat (first | rw [ByteArray.size_append] | rw [mkS_size] | rw [sz_one] | rw [List.length_singleton])); omega)])
        (try simp only [pA, pZ, pS])
        refine tk 18 hHeld ?_
        (try simp only [pA, pZ, pS])
        refine wpAnyH_done (by kernel_rfl) ?_ _
        refine NoPanic.normal ?_
        go_wp2
        go_ret
        refine ⟨?_, hWb.trans (B4.out.mono hWb.size)⟩
        rw [← HX.out]
        exact congrArg (fun x => Ending.returned (.string x)) (cat8 _ A B)
      · go_simp
        go_at_call 86; refine (HA.out w1 (HE.out.below B1.out)).mono ?_; rintro e' w5 ⟨rfl, hb5⟩
        (try go_wp2_with fail)
        refine hK.out _ _ ?hS5 (fun hHeld' => ?rest5)
        case hS5 => ((try dsimp only); exact ⟨cell_below hb5 hHeld.1, cell_below hb5 hHeld.2.1, cell_below hb5 hHeld.2.2⟩)
        clear hK K
        (first | simp only [pA, pZ, pS] | simp only [pN] | skip)
        clear hHeld
        have hHeld := hHeld'
        clear hHeld'
        have B5 := hidX (B1.out.trans (hb5.mono B1.out.size))
        have Sw5 := hidX (fun w' (h : Below w5.heap.size w5 w') => (show (fun w' => w'.cell? ⟨w.heap.size, 1, none⟩ = some (.int .u8 e.op) ∧ w'.cell? ⟨w.heap.size, 6, none⟩ = some (.int .i64 (pa : Int)) ∧ w'.cell? ⟨w.heap.size, 7, none⟩ = some (.int .i64 (pb : Int))) w' from ⟨cell_below h hHeld.1, cell_below h hHeld.2.1, cell_below h hHeld.2.2⟩))
        have b5 := cell_below hb5 b1
        refine wpAnyH_ready (rs := [3, 15]) (by kernel_rfl) (by simp) (AllReadyH.cons (List.getElem?_toArray.trans rfl) (fun K hK => ?_) (AllReadyH.cons (List.getElem?_toArray.trans rfl) (fun K hK => ?_) AllReadyH.nil))
        · have hcv6 := run_convT e.op w5 w0.heap.size b5
          go_simp
          refine hK.out _ _ ?hS6 (fun hHeld' => ?rest6)
          case hS6 => ((try dsimp only); exact hHeld)
          clear hK K
          (first | simp only [pA, pZ, pS] | simp only [pN] | skip)
          clear hHeld
          have hHeld := hHeld'
          clear hHeld'
          clear hcv6
          refine tk 4 hHeld ?_ (hy := fun w' _ => by go_simp; rw [if_neg (by (repeat (first | rw [ByteArray.size_append] | rw [mkS_size] | rw [sz_one] | rw [List.length_singleton])); omega)])
          (try simp only [pA, pZ, pS])
          refine tk 5 hHeld ?_ (hy := fun w' _ => by go_simp; rw [if_neg (by (repeat (first | rw [ByteArray.size_append] | rw [mkS_size] | rw [sz_one] | rw [List.length_singleton])); omega)])
          (try simp only [pA, pZ, pS])
          refine tk 10 hHeld ?_ (hy := fun w' _ => by go_simp; rw [if_neg (by (repeat (first | rw [ByteArray.size_append] | rw [mkS_size] | rw [sz_one] | rw [List.length_singleton])); omega)])
          (try simp only [pA, pZ, pS])
          refine tk 11 hHeld ?_ (hy := fun w' _ => by go_simp; rw [if_neg (by (repeat (first | rw [ByteArray.size_append] | rw [mkS_size] | rw [sz_one] | rw [List.length_singleton])); omega)])
          (try simp only [pA, pZ, pS])
          refine wpAnyH_ready (rs := [15]) (by kernel_rfl) (by simp) (AllReadyH.cons (List.getElem?_toArray.trans rfl) (fun K hK => ?_) AllReadyH.nil)
          go_simp
          go_at_call 86; refine (HB.out w5 (HE.out.below B5.out)).mono ?_; rintro e' w7 ⟨rfl, hb7⟩
          (try go_wp2_with fail)
          refine hK.out _ _ ?hS7 (fun hHeld' => ?rest7)
          case hS7 => ((try dsimp only); exact ⟨cell_below hb7 hHeld.1, cell_below hb7 hHeld.2.1, cell_below hb7 hHeld.2.2⟩)
          clear hK K
          (first | simp only [pA, pZ, pS] | simp only [pN] | skip)
          clear hHeld
          have hHeld := hHeld'
          clear hHeld'
          have B7 := hidX (B5.out.trans (hb7.mono B5.out.size))
          have Sw7 := hidX (fun w' (h : Below w7.heap.size w7 w') => (show (fun w' => w'.cell? ⟨w.heap.size, 1, none⟩ = some (.int .u8 e.op) ∧ w'.cell? ⟨w.heap.size, 6, none⟩ = some (.int .i64 (pa : Int)) ∧ w'.cell? ⟨w.heap.size, 7, none⟩ = some (.int .i64 (pb : Int))) w' from ⟨cell_below h hHeld.1, cell_below h hHeld.2.1, cell_below h hHeld.2.2⟩))
          have b7 := cell_below hb7 b5
          refine tk 16 hHeld ?_ (hy := fun w' _ => by go_simp; rw [if_neg (by (repeat (first | rw [ByteArray.size_append] | rw [mkS_size] | rw [sz_one] | rw [List.length_singleton])); omega)])
          (try simp only [pA, pZ, pS])
          refine tk 17 hHeld ?_ (hy := fun w' _ => by go_simp; rw [if_neg (by (repeat (first | rw [ByteArray.size_append] | rw [mkS_size] | rw [sz_one] | rw [List.length_singleton])); omega)])
          (try simp only [pA, pZ, pS])
          refine tk 18 hHeld ?_
          (try simp only [pA, pZ, pS])
          refine wpAnyH_done (by kernel_rfl) ?_ _
          refine NoPanic.normal ?_
          go_wp2
          go_ret
          refine ⟨?_, hWb.trans (B7.out.mono hWb.size)⟩
          rw [← HX.out]
          exact congrArg (fun x => Ending.returned (.string x)) (cat8 _ A B)
        · go_simp
          go_at_call 86; refine (HB.out w5 (HE.out.below B5.out)).mono ?_; rintro e' w8 ⟨rfl, hb8⟩
          (try go_wp2_with fail)
          refine hK.out _ _ ?hS8 (fun hHeld' => ?rest8)
          case hS8 => ((try dsimp only); exact ⟨cell_below hb8 hHeld.1, cell_below hb8 hHeld.2.1, cell_below hb8 hHeld.2.2⟩)
          clear hK K
          (first | simp only [pA, pZ, pS] | simp only [pN] | skip)
          clear hHeld
          have hHeld := hHeld'
          clear hHeld'
          have B8 := hidX (B5.out.trans (hb8.mono B5.out.size))
          have Sw8 := hidX (fun w' (h : Below w8.heap.size w8 w') => (show (fun w' => w'.cell? ⟨w.heap.size, 1, none⟩ = some (.int .u8 e.op) ∧ w'.cell? ⟨w.heap.size, 6, none⟩ = some (.int .i64 (pa : Int)) ∧ w'.cell? ⟨w.heap.size, 7, none⟩ = some (.int .i64 (pb : Int))) w' from ⟨cell_below h hHeld.1, cell_below h hHeld.2.1, cell_below h hHeld.2.2⟩))
          have b8 := cell_below hb8 b5
          refine wpAnyH_ready (rs := [3]) (by kernel_rfl) (by simp) (AllReadyH.cons (List.getElem?_toArray.trans rfl) (fun K hK => ?_) AllReadyH.nil)
          have hcv9 := run_convT e.op w8 w0.heap.size b8
          go_simp
          refine hK.out _ _ ?hS9 (fun hHeld' => ?rest9)
          case hS9 => ((try dsimp only); exact hHeld)
          clear hK K
          (first | simp only [pA, pZ, pS] | simp only [pN] | skip)
          clear hHeld
          have hHeld := hHeld'
          clear hHeld'
          clear hcv9
          refine tk 4 hHeld ?_ (hy := fun w' _ => by go_simp; rw [if_neg (by (repeat (first | rw [ByteArray.size_append] | rw [mkS_size] | rw [sz_one] | rw [List.length_singleton])); omega)])
          (try simp only [pA, pZ, pS])
          refine tk 5 hHeld ?_ (hy := fun w' _ => by go_simp; rw [if_neg (by (repeat (first | rw [ByteArray.size_append] | rw [mkS_size] | rw [sz_one] | rw [List.length_singleton])); omega)])
          (try simp only [pA, pZ, pS])
          refine tk 10 hHeld ?_ (hy := fun w' _ => by go_simp; rw [if_neg (by (repeat (first | rw [ByteArray.size_append] | rw [mkS_size] | rw [sz_one] | rw [List.length_singleton])); omega)])
          (try simp only [pA, pZ, pS])
          refine tk 11 hHeld ?_ (hy := fun w' _ => by go_simp; rw [if_neg (by (repeat (first | rw [ByteArray.size_append] | rw [mkS_size] | rw [sz_one] | rw [List.length_singleton])); omega)])
          (try simp only [pA, pZ, pS])
          refine tk 16 hHeld ?_ (hy := fun w' _ => by go_simp; rw [if_neg (by (repeat (first | rw [ByteArray.size_append] | rw [mkS_size] | rw [sz_one] | rw [List.length_singleton])); omega)])
          (try simp only [pA, pZ, pS])
          refine tk 17 hHeld ?_ (hy := fun w' _ => by go_simp; rw [if_neg (by (repeat (first | rw [ByteArray.size_append] | rw [mkS_size] | rw [sz_one] | rw [List.length_singleton])); omega)])
          (try simp only [pA, pZ, pS])
          refine tk 18 hHeld ?_
          (try simp only [pA, pZ, pS])
          refine wpAnyH_done (by kernel_rfl) ?_ _
          refine NoPanic.normal ?_
          go_wp2
          go_ret
          refine ⟨?_, hWb.trans (B8.out.mono hWb.size)⟩
          rw [← HX.out]
          exact congrArg (fun x => Ending.returned (.string x)) (cat8 _ A B)
    · go_simp
      go_at_call 86; refine (HA.out w0 (HE.out.below B0.out)).mono ?_; rintro e' w10 ⟨rfl, hb10⟩
      (try go_wp2_with fail)
      refine hK.out _ _ ?hS10 (fun hHeld' => ?rest10)
      case hS10 => ((try dsimp only); exact ⟨cell_below hb10 hHeld.1, cell_below hb10 hHeld.2.1, cell_below hb10 hHeld.2.2⟩)
      clear hK K
      (first | simp only [pA, pZ, pS] | simp only [pN] | skip)
      clear hHeld
      have hHeld := hHeld'
      clear hHeld'
      have B10 := hidX (B0.out.trans (hb10.mono B0.out.size))
      have Sw10 := hidX (fun w' (h : Below w10.heap.size w10 w') => (show (fun w' => w'.cell? ⟨w.heap.size, 1, none⟩ = some (.int .u8 e.op) ∧ w'.cell? ⟨w.heap.size, 6, none⟩ = some (.int .i64 (pa : Int)) ∧ w'.cell? ⟨w.heap.size, 7, none⟩ = some (.int .i64 (pb : Int))) w' from ⟨cell_below h hHeld.1, cell_below h hHeld.2.1, cell_below h hHeld.2.2⟩))
      refine wpAnyH_ready (rs := [2, 15]) (by kernel_rfl) (by simp) (AllReadyH.cons (List.getElem?_toArray.trans rfl) (fun K hK => ?_) (AllReadyH.cons (List.getElem?_toArray.trans rfl) (fun K hK => ?_) AllReadyH.nil))
      · go_simp
        refine hK.out _ _ ?hS11 (fun hHeld' => ?rest11)
        case hS11 => ((try dsimp only); exact ⟨cell_below ((Below.refl _ _).alloc (Nat.le_refl _) _) hHeld.1, cell_below ((Below.refl _ _).alloc (Nat.le_refl _) _) hHeld.2.1, cell_below ((Below.refl _ _).alloc (Nat.le_refl _) _) hHeld.2.2⟩)
        clear hK K
        (first | simp only [pA, pZ, pS] | simp only [pN] | skip)
        clear hHeld
        have hHeld := hHeld'
        clear hHeld'
        refine lift_alloc ?_
        intro w11 hW11 hq11
        have b11 : w11.cell? ⟨w10.heap.size, 0, none⟩ = some (.int .u8 e.op) := by simp [World.cell?, hq11]
        have B11 := hidX (B10.out.trans (hW11.mono B10.out.size))
        replace hHeld : (fun w' => w'.cell? ⟨w.heap.size, 1, none⟩ = some (.int .u8 e.op) ∧ w'.cell? ⟨w.heap.size, 6, none⟩ = some (.int .i64 (pa : Int)) ∧ w'.cell? ⟨w.heap.size, 7, none⟩ = some (.int .i64 (pb : Int))) w11 := Sw10.out w11 hW11
        have Sw11 := hidX (fun w' (h : Below w11.heap.size w11 w') => (show (fun w' => w'.cell? ⟨w.heap.size, 1, none⟩ = some (.int .u8 e.op) ∧ w'.cell? ⟨w.heap.size, 6, none⟩ = some (.int .i64 (pa : Int)) ∧ w'.cell? ⟨w.heap.size, 7, none⟩ = some (.int .i64 (pb : Int))) w' from ⟨cell_below h hHeld.1, cell_below h hHeld.2.1, cell_below h hHeld.2.2⟩))
        clear hq11
        refine wpAnyH_ready (rs := [3, 15]) (by kernel_rfl) (by simp) (AllReadyH.cons (List.getElem?_toArray.trans rfl) (fun K hK => ?_) (AllReadyH.cons (List.getElem?_toArray.trans rfl) (fun K hK => ?_) AllReadyH.nil))
        · have hcv12 := run_convT e.op w11 w10.heap.size b11
          go_simp
          refine hK.out _ _ ?hS12 (fun hHeld' => ?rest12)
          case hS12 => ((try dsimp only); exact hHeld)
          clear hK K
          (first | simp only [pA, pZ, pS] | simp only [pN] | skip)
          clear hHeld
          have hHeld := hHeld'
          clear hHeld'
          clear hcv12
          refine tk 4 hHeld ?_ (hy := fun w' _ => by go_simp; rw [if_neg (by (repeat (first | rw [ByteArray.size_append] | rw [mkS_size] | rw [sz_one] | rw [List.length_singleton])); omega)])
          (try simp only [pA, pZ, pS])
          refine tk 5 hHeld ?_ (hy := fun w' _ => by go_simp; rw [if_neg (by (repeat (first | rw [ByteArray.size_append] | rw [mkS_size] | rw [sz_one] | rw [List.length_singleton])); omega)])
          (try simp only [pA, pZ, pS])
          refine tk 10 hHeld ?_ (hy := fun w' _ => by go_simp; rw [if_neg (by (repeat (first | rw [ByteArray.size_append] | rw [mkS_size] | rw [sz_one] | rw [List.length_singleton])); omega)])
          (try simp only [pA, pZ, pS])
          refine tk 11 hHeld ?_ (hy := fun w' _ => by go_simp; rw [if_neg (by (repeat (first | rw [ByteArray.size_append] | rw [mkS_size] | rw [sz_one] | rw [List.length_singleton])); omega)])
          (try simp only [pA, pZ, pS])
          refine wpAnyH_ready (rs := [15]) (by kernel_rfl) (by simp) (AllReadyH.cons (List.getElem?_toArray.trans rfl) (fun K hK => ?_) AllReadyH.nil)
          go_simp
          go_at_call 86; refine (HB.out w11 (HE.out.below B11.out)).mono ?_; rintro e' w13 ⟨rfl, hb13⟩
          (try go_wp2_with fail)
          refine hK.out _ _ ?hS13 (fun hHeld' => ?rest13)
          case hS13 => ((try dsimp only); exact ⟨cell_below hb13 hHeld.1, cell_below hb13 hHeld.2.1, cell_below hb13 hHeld.2.2⟩)
          clear hK K
          (first | simp only [pA, pZ, pS] | simp only [pN] | skip)
          clear hHeld
          have hHeld := hHeld'
          clear hHeld'
          have B13 := hidX (B11.out.trans (hb13.mono B11.out.size))
          have Sw13 := hidX (fun w' (h : Below w13.heap.size w13 w') => (show (fun w' => w'.cell? ⟨w.heap.size, 1, none⟩ = some (.int .u8 e.op) ∧ w'.cell? ⟨w.heap.size, 6, none⟩ = some (.int .i64 (pa : Int)) ∧ w'.cell? ⟨w.heap.size, 7, none⟩ = some (.int .i64 (pb : Int))) w' from ⟨cell_below h hHeld.1, cell_below h hHeld.2.1, cell_below h hHeld.2.2⟩))
          have b13 := cell_below hb13 b11
          refine tk 16 hHeld ?_ (hy := fun w' _ => by go_simp; rw [if_neg (by (repeat (first | rw [ByteArray.size_append] | rw [mkS_size] | rw [sz_one] | rw [List.length_singleton])); omega)])
          (try simp only [pA, pZ, pS])
          refine tk 17 hHeld ?_ (hy := fun w' _ => by go_simp; rw [if_neg (by (repeat (first | rw [ByteArray.size_append] | rw [mkS_size] | rw [sz_one] | rw [List.length_singleton])); omega)])
          (try simp only [pA, pZ, pS])
          refine tk 18 hHeld ?_
          (try simp only [pA, pZ, pS])
          refine wpAnyH_done (by kernel_rfl) ?_ _
          refine NoPanic.normal ?_
          go_wp2
          go_ret
          refine ⟨?_, hWb.trans (B13.out.mono hWb.size)⟩
          rw [← HX.out]
          exact congrArg (fun x => Ending.returned (.string x)) (cat8 _ A B)
        · go_simp
          go_at_call 86; refine (HB.out w11 (HE.out.below B11.out)).mono ?_; rintro e' w14 ⟨rfl, hb14⟩
          (try go_wp2_with fail)
          refine hK.out _ _ ?hS14 (fun hHeld' => ?rest14)
          case hS14 => ((try dsimp only); exact ⟨cell_below hb14 hHeld.1, cell_below hb14 hHeld.2.1, cell_below hb14 hHeld.2.2⟩)
          clear hK K
          (first | simp only [pA, pZ, pS] | simp only [pN] | skip)
          clear hHeld
          have hHeld := hHeld'
          clear hHeld'
          have B14 := hidX (B11.out.trans (hb14.mono B11.out.size))
          have Sw14 := hidX (fun w' (h : Below w14.heap.size w14 w') => (show (fun w' => w'.cell? ⟨w.heap.size, 1, none⟩ = some (.int .u8 e.op) ∧ w'.cell? ⟨w.heap.size, 6, none⟩ = some (.int .i64 (pa : Int)) ∧ w'.cell? ⟨w.heap.size, 7, none⟩ = some (.int .i64 (pb : Int))) w' from ⟨cell_below h hHeld.1, cell_below h hHeld.2.1, cell_below h hHeld.2.2⟩))
          have b14 := cell_below hb14 b11
          refine wpAnyH_ready (rs := [3]) (by kernel_rfl) (by simp) (AllReadyH.cons (List.getElem?_toArray.trans rfl) (fun K hK => ?_) AllReadyH.nil)
          have hcv15 := run_convT e.op w14 w10.heap.size b14
          go_simp
          refine hK.out _ _ ?hS15 (fun hHeld' => ?rest15)
          case hS15 => ((try dsimp only); exact hHeld)
          clear hK K
          (first | simp only [pA, pZ, pS] | simp only [pN] | skip)
          clear hHeld
          have hHeld := hHeld'
          clear hHeld'
          clear hcv15
          refine tk 4 hHeld ?_ (hy := fun w' _ => by go_simp; rw [if_neg (by (repeat (first | rw [ByteArray.size_append] | rw [mkS_size] | rw [sz_one] | rw [List.length_singleton])); omega)])
          (try simp only [pA, pZ, pS])
          refine tk 5 hHeld ?_ (hy := fun w' _ => by go_simp; rw [if_neg (by (repeat (first | rw [ByteArray.size_append] | rw [mkS_size] | rw [sz_one] | rw [List.length_singleton])); omega)])
          (try simp only [pA, pZ, pS])
          refine tk 10 hHeld ?_ (hy := fun w' _ => by go_simp; rw [if_neg (by (repeat (first | rw [ByteArray.size_append] | rw [mkS_size] | rw [sz_one] | rw [List.length_singleton])); omega)])
          (try simp only [pA, pZ, pS])
          refine tk 11 hHeld ?_ (hy := fun w' _ => by go_simp; rw [if_neg (by (repeat (first | rw [ByteArray.size_append] | rw [mkS_size] | rw [sz_one] | rw [List.length_singleton])); omega)])
          (try simp only [pA, pZ, pS])
          refine tk 16 hHeld ?_ (hy := fun w' _ => by go_simp; rw [if_neg (by (repeat (first | rw [ByteArray.size_append] | rw [mkS_size] | rw [sz_one] | rw [List.length_singleton])); omega)])
          (try simp only [pA, pZ, pS])
          refine tk 17 hHeld ?_ (hy := fun w' _ => by go_simp; rw [if_neg (by (repeat (first | rw [ByteArray.size_append] | rw [mkS_size] | rw [sz_one] | rw [List.length_singleton])); omega)])
          (try simp only [pA, pZ, pS])
          refine tk 18 hHeld ?_
          (try simp only [pA, pZ, pS])
          refine wpAnyH_done (by kernel_rfl) ?_ _
          refine NoPanic.normal ?_
          go_wp2
          go_ret
          refine ⟨?_, hWb.trans (B14.out.mono hWb.size)⟩
          rw [← HX.out]
          exact congrArg (fun x => Ending.returned (.string x)) (cat8 _ A B)
      · go_simp
        go_at_call 86; refine (HB.out w10 (HE.out.below B10.out)).mono ?_; rintro e' w16 ⟨rfl, hb16⟩
        (try go_wp2_with fail)
        refine hK.out _ _ ?hS16 (fun hHeld' => ?rest16)
        case hS16 => ((try dsimp only); exact ⟨cell_below hb16 hHeld.1, cell_below hb16 hHeld.2.1, cell_below hb16 hHeld.2.2⟩)
        clear hK K
        (first | simp only [pA, pZ, pS] | simp only [pN] | skip)
        clear hHeld
        have hHeld := hHeld'
        clear hHeld'
        have B16 := hidX (B10.out.trans (hb16.mono B10.out.size))
        have Sw16 := hidX (fun w' (h : Below w16.heap.size w16 w') => (show (fun w' => w'.cell? ⟨w.heap.size, 1, none⟩ = some (.int .u8 e.op) ∧ w'.cell? ⟨w.heap.size, 6, none⟩ = some (.int .i64 (pa : Int)) ∧ w'.cell? ⟨w.heap.size, 7, none⟩ = some (.int .i64 (pb : Int))) w' from ⟨cell_below h hHeld.1, cell_below h hHeld.2.1, cell_below h hHeld.2.2⟩))
        refine wpAnyH_ready (rs := [2]) (by kernel_rfl) (by simp) (AllReadyH.cons (List.getElem?_toArray.trans rfl) (fun K hK => ?_) AllReadyH.nil)
        go_simp
        refine hK.out _ _ ?hS17 (fun hHeld' => ?rest17)
        case hS17 => ((try dsimp only); exact ⟨cell_below ((Below.refl _ _).alloc (Nat.le_refl _) _) hHeld.1, cell_below ((Below.refl _ _).alloc (Nat.le_refl _) _) hHeld.2.1, cell_below ((Below.refl _ _).alloc (Nat.le_refl _) _) hHeld.2.2⟩)
        clear hK K
        (first | simp only [pA, pZ, pS] | simp only [pN] | skip)
        clear hHeld
        have hHeld := hHeld'
        clear hHeld'
        refine lift_alloc ?_
        intro w17 hW17 hq17
        have b17 : w17.cell? ⟨w16.heap.size, 0, none⟩ = some (.int .u8 e.op) := by simp [World.cell?, hq17]
        have B17 := hidX (B16.out.trans (hW17.mono B16.out.size))
        replace hHeld : (fun w' => w'.cell? ⟨w.heap.size, 1, none⟩ = some (.int .u8 e.op) ∧ w'.cell? ⟨w.heap.size, 6, none⟩ = some (.int .i64 (pa : Int)) ∧ w'.cell? ⟨w.heap.size, 7, none⟩ = some (.int .i64 (pb : Int))) w17 := Sw16.out w17 hW17
        have Sw17 := hidX (fun w' (h : Below w17.heap.size w17 w') => (show (fun w' => w'.cell? ⟨w.heap.size, 1, none⟩ = some (.int .u8 e.op) ∧ w'.cell? ⟨w.heap.size, 6, none⟩ = some (.int .i64 (pa : Int)) ∧ w'.cell? ⟨w.heap.size, 7, none⟩ = some (.int .i64 (pb : Int))) w' from ⟨cell_below h hHeld.1, cell_below h hHeld.2.1, cell_below h hHeld.2.2⟩))
        clear hq17
        refine wpAnyH_ready (rs := [3]) (by kernel_rfl) (by simp) (AllReadyH.cons (List.getElem?_toArray.trans rfl) (fun K hK => ?_) AllReadyH.nil)
        have hcv18 := run_convT e.op w17 w16.heap.size b17
        go_simp
        refine hK.out _ _ ?hS18 (fun hHeld' => ?rest18)
        case hS18 => ((try dsimp only); exact hHeld)
        clear hK K
        (first | simp only [pA, pZ, pS] | simp only [pN] | skip)
        clear hHeld
        have hHeld := hHeld'
        clear hHeld'
        clear hcv18
        refine tk 4 hHeld ?_ (hy := fun w' _ => by go_simp; rw [if_neg (by (repeat (first | rw [ByteArray.size_append] | rw [mkS_size] | rw [sz_one] | rw [List.length_singleton])); omega)])
        (try simp only [pA, pZ, pS])
        refine tk 5 hHeld ?_ (hy := fun w' _ => by go_simp; rw [if_neg (by (repeat (first | rw [ByteArray.size_append] | rw [mkS_size] | rw [sz_one] | rw [List.length_singleton])); omega)])
        (try simp only [pA, pZ, pS])
        refine tk 10 hHeld ?_ (hy := fun w' _ => by go_simp; rw [if_neg (by (repeat (first | rw [ByteArray.size_append] | rw [mkS_size] | rw [sz_one] | rw [List.length_singleton])); omega)])
        (try simp only [pA, pZ, pS])
        refine tk 11 hHeld ?_ (hy := fun w' _ => by go_simp; rw [if_neg (by (repeat (first | rw [ByteArray.size_append] | rw [mkS_size] | rw [sz_one] | rw [List.length_singleton])); omega)])
        (try simp only [pA, pZ, pS])
        refine tk 16 hHeld ?_ (hy := fun w' _ => by go_simp; rw [if_neg (by (repeat (first | rw [ByteArray.size_append] | rw [mkS_size] | rw [sz_one] | rw [List.length_singleton])); omega)])
        (try simp only [pA, pZ, pS])
        refine tk 17 hHeld ?_ (hy := fun w' _ => by go_simp; rw [if_neg (by (repeat (first | rw [ByteArray.size_append] | rw [mkS_size] | rw [sz_one] | rw [List.length_singleton])); omega)])
        (try simp only [pA, pZ, pS])
        refine tk 18 hHeld ?_
        (try simp only [pA, pZ, pS])
        refine wpAnyH_done (by kernel_rfl) ?_ _
        refine NoPanic.normal ?_
        go_wp2
        go_ret
        refine ⟨?_, hWb.trans (B17.out.mono hWb.size)⟩
        rw [← HX.out]
        exact congrArg (fun x => Ending.returned (.string x)) (cat8 _ A B)
theorem lExpr_any {es : List Ex} {S : List Sp} (hT : ExT es S) (a : Option Addr) (c : Nat) (q : Option Nat) : ∀ (n i : Nat) (w : World), ExsAt q w a es → i < n → i < es.length → Calls Tryz.prog 86 #[.slice a es.length c, .int .i64 (i : Int)] w fun e w' => e = .returned (.string (mkS (txE n es i))) ∧ Below w.heap.size w w'
  | 0, _, _, _, h, _ => absurd h (Nat.not_lt_zero _)
  | n + 1, i, w, hE, hin, hi => lExpr_step hT a c q n (lExpr_any hT a c q n) i w hE hin hi
end Go.Proofs.YtfgpcjdjbbhdmaaGreatDoor
