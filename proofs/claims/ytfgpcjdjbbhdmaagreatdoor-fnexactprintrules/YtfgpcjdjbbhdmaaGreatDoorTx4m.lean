/-
  OUR OWN TEXT. The model's terms as texts.
-/
import Derived.Test.YtfgpcjdjbbhdmaaGreatDoorTx3m
import Derived.Test.YtfgpcjdjbbhdmaaGreatDoorXa
import Derived.Test.YtfgpcjdjbbhdmaaGreatDoorHw
namespace Go.Proofs.YtfgpcjdjbbhdmaaGreatDoor
open Go.RowKit
attribute [local go_sem ↓] Go.wp_at_zero Go.wp_at_succ

/-- Six texts of tests at an address. -/
def TestsAt (w : World) (g o : Nat) : Prop := ∀ k, k < 6 → w.cell? ⟨g, o + k, none⟩ = some (.string (mkS (opTx.getD k [])))
theorem TestsAt.below {w w' : World} {g o : Nat} (h : TestsAt w g o) (hb : Below w.heap.size w w') : TestsAt w' g o := fun k hk => cell_below hb (h k hk)

set_option maxHeartbeats 800000 in
theorem l2Tests_txt (w : World) : Calls Tryz.prog 85 #[] w fun e w' => e = .returned (.slice (some ⟨w.heap.size, 0, none⟩) 6 6) ∧ TestsAt w' w.heap.size 0 ∧ Below w.heap.size w w' := by
  have hA : ∀ o, Below w.heap.size w (w.alloc o) := fun o => (Below.refl _ _).alloc (Nat.le_refl _) _
  go_enter Tryz.func85, Tryz.ntmps85
  go_wp2
  go_ret
  refine ⟨rfl, ?_, hA _⟩
  intro k hk
  rcases (show k = 0 ∨ k = 1 ∨ k = 2 ∨ k = 3 ∨ k = 4 ∨ k = 5 by omega) with rfl | rfl | rfl | rfl | rfl | rfl <;> simp [go_sem] <;> rfl

theorem wrap_small (n : Int) (h0 : 0 ≤ n) (h1 : n < 1000) : IntKind.i64.wrap n = n := by
  rw [IntKind.wrap_i64]
  omega
theorem szOk {a b : ByteArray} {n m : Nat} (ha : a.size ≤ n) (hb : b.size ≤ m) (h : n + m ≤ 9223372036854775807) : ¬ 9223372036854775807 < a.size + b.size := by omega
theorem szApp {a b : ByteArray} {n m : Nat} (ha : a.size ≤ n) (hb : b.size ≤ m) : (a ++ b).size ≤ n + m := by rw [ByteArray.size_append]; omega
theorem sz1 (x : UInt8) : ({ data := #[x] } : ByteArray).size ≤ 1 := Nat.le_refl 1
theorem cat5 (a b : Bs) : ({ data := #[40] } : ByteArray) ++ mkS a ++ { data := #[32] } ++ mkS b ++ { data := #[41] } = mkS (40 :: (a ++ 32 :: (b ++ [41]))) := by
  have e : ∀ x : UInt8, ({ data := #[x] } : ByteArray) = mkS [x] := fun _ => rfl
  rw [e, e, e, mkS_app, mkS_app, mkS_app, mkS_app]
  simp
theorem sz_one (x : UInt8) : ({ data := #[x] } : ByteArray).size = 1 := rfl
theorem szMk {a : Bs} {n : Nat} (h : a.length ≤ n) : (mkS a).size ≤ n := by rw [mkS_size]; exact h
theorem sizes_two (a b : Bs) (h1 : a.length ≤ 100000000000) (h : b.length ≤ 100000000000) : ¬ 9223372036854775807 < (mkS a).size + (mkS b).size := by
  rw [mkS_size, mkS_size]
  omega

set_option maxHeartbeats 1600000 in
theorem l2Term_txt (t : Tm) (w : World) (hg : gTm t = true) (hn : numOk t.val.num) : Calls Tryz.prog 42 #[.agg #[.int .i64 t.kind, .int .i64 t.op, .string t.var, .int .i64 t.val.kind, .int .i64 t.val.num, .string t.val.sym]] w fun e w' => e = .returned (.string (mkS (txT t))) ∧ Below w.heap.size w w' := by
  have hA : ∀ o, Below w.heap.size w (w.alloc o) := fun o => (Below.refl _ _).alloc (Nat.le_refl _) _
  by_cases k1 : t.kind = 1
  · have HX : Hid (txV t.val = txT t) := show txV t.val = txT t from by unfold txT; rw [if_pos k1]
    go_enter Tryz.func42, Tryz.ntmps42
    go_wp2_with (go_at_call 84; refine (l2Val_txt t.val _ hn).mono ?_; rintro e w1 ⟨rfl, hb1⟩)
    go_ret
    exact ⟨ret_txt HX.out, (hA _).trans (hb1.mono (hA _).size)⟩
  by_cases k2 : t.kind = 2
  · have HX : Hid (63 :: bsOf t.var = txT t) := show _ = txT t from by unfold txT; rw [if_neg k1, if_pos k2]
    have hv : t.var.size ≤ 20 := by
      simp [gTm, k2] at hg
      exact gSym_sz hg.2.1
    have hs : ¬ 9223372036854775807 < ({ data := #[63] } : ByteArray).size + t.var.size := by
      have : ({ data := #[63] } : ByteArray).size = 1 := rfl
      omega
    go_enter Tryz.func42, Tryz.ntmps42
    go_wp2
    go_ret
    refine ⟨?_, hA _⟩
    rw [← HX.out]
    exact congrArg (fun x => Ending.returned (.string x)) (mkS_app' t.var [63])
  by_cases k3 : t.kind = 3
  · have hT : 1 ≤ t.op ∧ t.op ≤ 6 ∧ operandOk t = true := by
      simp [gTm, k3] at hg
      exact hg
    obtain ⟨ho1, ho6, hopd⟩ := hT
    obtain ⟨k, hk⟩ : ∃ k : Nat, t.op = (k : Int) + 1 := ⟨(t.op - 1).toNat, by omega⟩
    have hk6 : k < 6 := by omega
    have HX : Hid (40 :: (opTx.getD k [] ++ 32 :: (txO t ++ [41])) = txT t) := show _ = txT t from by unfold txT; rw [if_neg k1, if_neg k2, if_pos k3, hk]; simp
    have hsv := txO_le hopd hn
    have hso := opTx_le k
    have HOP := hidX hk
    obtain ⟨xo, hxo⟩ : ∃ x, x = txO t := ⟨_, rfl⟩
    rw [← hxo] at HX hsv
    cases hv : t.var.toList.isEmpty
    · have hO : mkS xo = ({ data := #[63] } : ByteArray) ++ t.var := by
        have hb : isE t.var = false := hv
        rw [hxo, txO, hb]
        exact (mkS_app' t.var [63]).symm
      have hs : ¬ 9223372036854775807 < ({ data := #[63] } : ByteArray).size + t.var.size := by
        have := congrArg ByteArray.size hO
        rw [mkS_size, ByteArray.size_append] at this
        omega
      have HO := hidX hO
      clear hO hxo
      go_enter Tryz.func42, Tryz.ntmps42
      go_wp2_with (go_at_call 84; refine (l2Val_txt t.val _ hn).mono ?_; rintro e w1 ⟨rfl, hb1⟩; have z1 : w1.cell? ⟨w.heap.size, 1, none⟩ = some (.int .i64 ((k : Int) + 1)) := cell_below hb1 (by simp [go_sem]); have z2 : w1.cell? ⟨w.heap.size, 2, none⟩ = some (.string t.var) := cell_below hb1 (by simp [go_sem]))
      rw [← HO.out]
      clear z2 hs HO hv
      have z3 : ∀ w', Below w1.heap.size w1 w' → w'.cell? ⟨w.heap.size, 1, none⟩ = some (.int .i64 ((k : Int) + 1)) := fun w' h => cell_below h z1
      have ZZ := hidX z3
      obtain ⟨ob, hob⟩ : ∃ o, o = opTx.getD k [] := ⟨_, rfl⟩
      have HOB := hidX hob
      rw [← hob] at hso
      have TA : Hid (∀ w0, w0.heap.size = w1.heap.size → Calls Tryz.prog 85 #[] w0 fun e w' => e = .returned (.slice (some ⟨w1.heap.size, 0, none⟩) 6 6) ∧ w'.cell? ⟨w1.heap.size, k, none⟩ = some (.string (mkS ob)) ∧ Below w0.heap.size w0 w') := fun w0 h0 => (l2Tests_txt w0).mono fun e w' ⟨h1, h2, h3⟩ => ⟨by rw [← h0]; exact h1, by have := h2 k hk6; rw [Nat.zero_add, ← HOB.out, h0] at this; exact this, h3⟩
      clear hob z3
      have i0 : (0 : Int) ≤ (k : Int) := by omega
      have i6 : (k : Int) < 6 := by omega
      have i7 : IntKind.i64.wrap ((k : Int) + 1 - 1) = (k : Int) := by rw [show (k : Int) + 1 - 1 = (k : Int) by omega]; exact wrap_small _ (by omega) (by omega)
      have i8 : IntKind.i64.wrap (k : Int) = (k : Int) := wrap_small _ (by omega) (by omega)
      refine wp_region_noPanic ?_
      refine wp_region_held_drew (S := (fun w' => w'.cell? ⟨w.heap.size, 1, none⟩ = some (.int .i64 ((k : Int) + 1)))) (by kernel_rfl) ?_ (fun hHeld => ?_)
      · (try dsimp only)
        exact z1
      refine tk 1 hHeld ?_
      (try simp only [pA, pZ, pS])
      refine tk 2 hHeld ?_
      (try simp only [pA, pZ, pS])
      refine tk 3 hHeld ?_
      (try simp only [pA, pZ, pS])
      refine tk 8 hHeld ?_
      (try simp only [pA, pZ, pS])
      refine wpAnyH_ready (rs := [0]) (by kernel_rfl) (by simp) ?_
      refine AllReadyH.cons (o := ?o1) ?ho1 (fun K hK => ?step1) AllReadyH.nil
      case ho1 => (simp only [List.getElem?_toArray, List.getElem?_cons_zero]; rfl)
      go_simp
      go_at_call 85; refine (TA.out _ (by simp)).mono ?_; rintro e' w' ⟨rfl, hc', hb'⟩; (try go_wp2_with fail)
      refine hK.out _ _ ?hS1 (fun hHeld' => ?rest1)
      case hS1 => ((try dsimp only); exact cell_below hb' (by assumption))
      clear hK K
      (first | simp only [pA, pZ, pS] | simp only [pN] | skip)
      clear hHeld
      have hHeld := hHeld'
      clear hHeld'
      refine tk 4 hHeld ?_
      (try simp only [pA, pZ, pS])
      refine wpAnyH_ready (rs := [5]) (by kernel_rfl) (by simp) ?_
      refine AllReadyH.cons (o := ?o2) ?ho2 (fun K hK => ?step2) AllReadyH.nil
      case ho2 => (simp only [List.getElem?_toArray, List.getElem?_cons_succ, List.getElem?_cons_zero]; rfl)
      go_simp
      refine hK.out _ _ ?hS2 (fun hHeld' => ?rest2)
      case hS2 => ((try dsimp only); assumption)
      clear hK K
      (first | simp only [pA, pZ, pS] | simp only [pN] | skip)
      clear hHeld
      have hHeld := hHeld'
      clear hHeld'
      refine wpAnyH_ready (rs := [6]) (by kernel_rfl) (by simp) ?_
      refine AllReadyH.cons (o := ?o3) ?ho3 (fun K hK => ?step3) AllReadyH.nil
      case ho3 => (simp only [List.getElem?_toArray, List.getElem?_cons_succ, List.getElem?_cons_zero]; rfl)
      go_simp
      (rw [if_neg (by (repeat (first | rw [ByteArray.size_append] | rw [mkS_size] | rw [sz_one])); omega)]; go_simp)
      refine hK.out _ _ ?hS3 (fun hHeld' => ?rest3)
      case hS3 => ((try dsimp only); assumption)
      clear hK K
      (first | simp only [pA, pZ, pS] | simp only [pN] | skip)
      clear hHeld
      have hHeld := hHeld'
      clear hHeld'
      refine wpAnyH_ready (rs := [7]) (by kernel_rfl) (by simp) ?_
      refine AllReadyH.cons (o := ?o4) ?ho4 (fun K hK => ?step4) AllReadyH.nil
      case ho4 => (simp only [List.getElem?_toArray, List.getElem?_cons_succ, List.getElem?_cons_zero]; rfl)
      go_simp
      (rw [if_neg (by (repeat (first | rw [ByteArray.size_append] | rw [mkS_size] | rw [sz_one])); omega)]; go_simp)
      refine hK.out _ _ ?hS4 (fun hHeld' => ?rest4)
      case hS4 => ((try dsimp only); assumption)
      clear hK K
      (first | simp only [pA, pZ, pS] | simp only [pN] | skip)
      clear hHeld
      have hHeld := hHeld'
      clear hHeld'
      refine wpAnyH_ready (rs := [9]) (by kernel_rfl) (by simp) ?_
      refine AllReadyH.cons (o := ?o5) ?ho5 (fun K hK => ?step5) AllReadyH.nil
      case ho5 => (simp only [List.getElem?_toArray, List.getElem?_cons_succ, List.getElem?_cons_zero]; rfl)
      go_simp
      (rw [if_neg (by (repeat (first | rw [ByteArray.size_append] | rw [mkS_size] | rw [sz_one])); omega)]; go_simp)
      refine hK.out _ _ ?hS5 (fun hHeld' => ?rest5)
      case hS5 => ((try dsimp only); assumption)
      clear hK K
      (first | simp only [pA, pZ, pS] | simp only [pN] | skip)
      clear hHeld
      have hHeld := hHeld'
      clear hHeld'
      refine wpAnyH_ready (rs := [10]) (by kernel_rfl) (by simp) ?_
      refine AllReadyH.cons (o := ?o6) ?ho6 (fun K hK => ?step6) AllReadyH.nil
      case ho6 => (simp only [List.getElem?_toArray, List.getElem?_cons_succ, List.getElem?_cons_zero]; rfl)
      go_simp
      (rw [if_neg (by (repeat (first | rw [ByteArray.size_append] | rw [mkS_size] | rw [sz_one])); omega)]; go_simp)
      refine hK.out _ _ ?hS6 (fun hHeld' => ?rest6)
      case hS6 => ((try dsimp only); assumption)
      clear hK K
      (first | simp only [pA, pZ, pS] | simp only [pN] | skip)
      clear hHeld
      have hHeld := hHeld'
      clear hHeld'
      refine tk 11 hHeld ?_
      (try simp only [pA, pZ, pS])
      refine wpAnyH_done (by kernel_rfl) ?_ _
      refine NoPanic.normal ?_
      go_wp2
      go_ret
      refine ⟨?_, (hA _).trans ((hb1.trans ((Below.refl _ _).drew.trans (hb'.mono (by simp))|>.mono hb1.size)).mono (hA _).size)⟩
      rw [← HX.out, ← HOB.out]
      exact congrArg (fun x => Ending.returned (.string x)) (cat5 ob xo)
    · have hb : isE t.var = true := hv
      have hV : ∀ w0, Calls Tryz.prog 84 #[.agg #[.int .i64 t.val.kind, .int .i64 t.val.num, .string t.val.sym]] w0 fun e w' => e = .returned (.string (mkS xo)) ∧ Below w0.heap.size w0 w' := fun w0 => by
        have e : txO t = txV t.val := by unfold txO; rw [hb]; rfl
        rw [hxo, e]
        exact l2Val_txt t.val w0 hn
      have HV := hidX hV
      clear hV hxo hb
      go_enter Tryz.func42, Tryz.ntmps42
      go_wp2_with (go_at_call 84; refine (HV.out _).mono ?_; rintro e w1 ⟨rfl, hb1⟩; have z1 : w1.cell? ⟨w.heap.size, 1, none⟩ = some (.int .i64 ((k : Int) + 1)) := cell_below hb1 (by simp [go_sem]); have z2 : w1.cell? ⟨w.heap.size, 2, none⟩ = some (.string t.var) := cell_below hb1 (by simp [go_sem]))
      clear z2 hv
      have z3 : ∀ w', Below w1.heap.size w1 w' → w'.cell? ⟨w.heap.size, 1, none⟩ = some (.int .i64 ((k : Int) + 1)) := fun w' h => cell_below h z1
      have ZZ := hidX z3
      obtain ⟨ob, hob⟩ : ∃ o, o = opTx.getD k [] := ⟨_, rfl⟩
      have HOB := hidX hob
      rw [← hob] at hso
      have TA : Hid (∀ w0, w0.heap.size = w1.heap.size → Calls Tryz.prog 85 #[] w0 fun e w' => e = .returned (.slice (some ⟨w1.heap.size, 0, none⟩) 6 6) ∧ w'.cell? ⟨w1.heap.size, k, none⟩ = some (.string (mkS ob)) ∧ Below w0.heap.size w0 w') := fun w0 h0 => (l2Tests_txt w0).mono fun e w' ⟨h1, h2, h3⟩ => ⟨by rw [← h0]; exact h1, by have := h2 k hk6; rw [Nat.zero_add, ← HOB.out, h0] at this; exact this, h3⟩
      clear hob z3
      have i0 : (0 : Int) ≤ (k : Int) := by omega
      have i6 : (k : Int) < 6 := by omega
      have i7 : IntKind.i64.wrap ((k : Int) + 1 - 1) = (k : Int) := by rw [show (k : Int) + 1 - 1 = (k : Int) by omega]; exact wrap_small _ (by omega) (by omega)
      have i8 : IntKind.i64.wrap (k : Int) = (k : Int) := wrap_small _ (by omega) (by omega)
      refine wp_region_noPanic ?_
      refine wp_region_held_drew (S := (fun w' => w'.cell? ⟨w.heap.size, 1, none⟩ = some (.int .i64 ((k : Int) + 1)))) (by kernel_rfl) ?_ (fun hHeld => ?_)
      · (try dsimp only)
        exact z1
      refine tk 1 hHeld ?_
      (try simp only [pA, pZ, pS])
      refine tk 2 hHeld ?_
      (try simp only [pA, pZ, pS])
      refine tk 3 hHeld ?_
      (try simp only [pA, pZ, pS])
      refine tk 8 hHeld ?_
      (try simp only [pA, pZ, pS])
      refine wpAnyH_ready (rs := [0]) (by kernel_rfl) (by simp) ?_
      refine AllReadyH.cons (o := ?o7) ?ho7 (fun K hK => ?step7) AllReadyH.nil
      case ho7 => (simp only [List.getElem?_toArray, List.getElem?_cons_zero]; rfl)
      go_simp
      go_at_call 85; refine (TA.out _ (by simp)).mono ?_; rintro e' w' ⟨rfl, hc', hb'⟩; (try go_wp2_with fail)
      refine hK.out _ _ ?hS7 (fun hHeld' => ?rest7)
      case hS7 => ((try dsimp only); exact cell_below hb' (by assumption))
      clear hK K
      (first | simp only [pA, pZ, pS] | simp only [pN] | skip)
      clear hHeld
      have hHeld := hHeld'
      clear hHeld'
      refine tk 4 hHeld ?_
      (try simp only [pA, pZ, pS])
      refine wpAnyH_ready (rs := [5]) (by kernel_rfl) (by simp) ?_
      refine AllReadyH.cons (o := ?o8) ?ho8 (fun K hK => ?step8) AllReadyH.nil
      case ho8 => (simp only [List.getElem?_toArray, List.getElem?_cons_succ, List.getElem?_cons_zero]; rfl)
      go_simp
      refine hK.out _ _ ?hS8 (fun hHeld' => ?rest8)
      case hS8 => ((try dsimp only); assumption)
      clear hK K
      (first | simp only [pA, pZ, pS] | simp only [pN] | skip)
      clear hHeld
      have hHeld := hHeld'
      clear hHeld'
      refine wpAnyH_ready (rs := [6]) (by kernel_rfl) (by simp) ?_
      refine AllReadyH.cons (o := ?o9) ?ho9 (fun K hK => ?step9) AllReadyH.nil
      case ho9 => (simp only [List.getElem?_toArray, List.getElem?_cons_succ, List.getElem?_cons_zero]; rfl)
      go_simp
      (rw [if_neg (by (repeat (first | rw [ByteArray.size_append] | rw [mkS_size] | rw [sz_one])); omega)]; go_simp)
      refine hK.out _ _ ?hS9 (fun hHeld' => ?rest9)
      case hS9 => ((try dsimp only); assumption)
      clear hK K
      (first | simp only [pA, pZ, pS] | simp only [pN] | skip)
      clear hHeld
      have hHeld := hHeld'
      clear hHeld'
      refine wpAnyH_ready (rs := [7]) (by kernel_rfl) (by simp) ?_
      refine AllReadyH.cons (o := ?o10) ?ho10 (fun K hK => ?step10) AllReadyH.nil
      case ho10 => (simp only [List.getElem?_toArray, List.getElem?_cons_succ, List.getElem?_cons_zero]; rfl)
      go_simp
      (rw [if_neg (by (repeat (first | rw [ByteArray.size_append] | rw [mkS_size] | rw [sz_one])); omega)]; go_simp)
      refine hK.out _ _ ?hS10 (fun hHeld' => ?rest10)
      case hS10 => ((try dsimp only); assumption)
      clear hK K
      (first | simp only [pA, pZ, pS] | simp only [pN] | skip)
      clear hHeld
      have hHeld := hHeld'
      clear hHeld'
      refine wpAnyH_ready (rs := [9]) (by kernel_rfl) (by simp) ?_
      refine AllReadyH.cons (o := ?o11) ?ho11 (fun K hK => ?step11) AllReadyH.nil
      case ho11 => (simp only [List.getElem?_toArray, List.getElem?_cons_succ, List.getElem?_cons_zero]; rfl)
      go_simp
      (rw [if_neg (by (repeat (first | rw [ByteArray.size_append] | rw [mkS_size] | rw [sz_one])); omega)]; go_simp)
      refine hK.out _ _ ?hS11 (fun hHeld' => ?rest11)
      case hS11 => ((try dsimp only); assumption)
      clear hK K
      (first | simp only [pA, pZ, pS] | simp only [pN] | skip)
      clear hHeld
      have hHeld := hHeld'
      clear hHeld'
      refine wpAnyH_ready (rs := [10]) (by kernel_rfl) (by simp) ?_
      refine AllReadyH.cons (o := ?o12) ?ho12 (fun K hK => ?step12) AllReadyH.nil
      case ho12 => (simp only [List.getElem?_toArray, List.getElem?_cons_succ, List.getElem?_cons_zero]; rfl)
      go_simp
      (rw [if_neg (by (repeat (first | rw [ByteArray.size_append] | rw [mkS_size] | rw [sz_one])); omega)]; go_simp)
      refine hK.out _ _ ?hS12 (fun hHeld' => ?rest12)
      case hS12 => ((try dsimp only); assumption)
      clear hK K
      (first | simp only [pA, pZ, pS] | simp only [pN] | skip)
      clear hHeld
      have hHeld := hHeld'
      clear hHeld'
      refine tk 11 hHeld ?_
      (try simp only [pA, pZ, pS])
      refine wpAnyH_done (by kernel_rfl) ?_ _
      refine NoPanic.normal ?_
      go_wp2
      go_ret
      refine ⟨?_, (hA _).trans ((hb1.trans ((Below.refl _ _).drew.trans (hb'.mono (by simp))|>.mono hb1.size)).mono (hA _).size)⟩
      rw [← HX.out, ← HOB.out]
      exact congrArg (fun x => Ending.returned (.string x)) (cat5 ob xo)
  · have HX : Hid ([95] = txT t) := show _ = txT t from by unfold txT; rw [if_neg k1, if_neg k2, if_neg k3]
    go_enter Tryz.func42, Tryz.ntmps42
    go_wp2
    go_ret
    exact ⟨ret_txt HX.out, hA _⟩
end Go.Proofs.YtfgpcjdjbbhdmaaGreatDoor
