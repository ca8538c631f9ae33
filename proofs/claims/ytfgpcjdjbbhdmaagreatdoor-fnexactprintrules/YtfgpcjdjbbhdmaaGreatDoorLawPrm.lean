/-
  OUR OWN TEXT. The law FnExactPrintRules, out of the contracts.
-/
import Derived.Test.YtfgpcjdjbbhdmaaGreatDoorTx13m
import Derived.Test.YtfgpcjdjbbhdmaaGreatDoorTx16m
import Derived.Test.YtfgpcjdjbbhdmaaGreatDoorYe
import Derived.Test.YtfgpcjdjbbhdmaaGreatDoorYc
import Derived.Test.YtfgpcjdjbbhdmaaGreatDoorYb
import Derived.Test.YtfgpcjdjbbhdmaaGreatDoorYd
namespace Go.Proofs.YtfgpcjdjbbhdmaaGreatDoor
open Go.RowKit
attribute [local go_sem ↓] Go.wp_at_zero Go.wp_at_succ

theorem ownsKeptP {w w' : World} {base : Nat} {e : TypeId} {size : Nat} {v : Value} {n : Nat} {xs : List Value} (h : w.ownsRow base e size v n xs) {S : Nat → Prop} (ht : Tr S w w') (hs : ∀ g, v.ownBlock = some g → ¬ S g) : w'.ownsRow base e size v n xs :=
  owns_of_block h fun g hg => ht.block g (h.lt g hg).2 (hs g hg)

theorem prnt_le {rs : List Ru} (hn : ∀ x ∈ rs, RuN x) : (prnt rs).length ≤ 100000000000 := by
  by_cases hp : (chk rs).1 = 0
  · obtain ⟨h16, hT⟩ := chk_T hp hn
    rw [prnt_yes hp]
    have := txRs_le h16 hT
    omega
  · rw [prnt_no hp]
    simp

set_option maxRecDepth 100000 in
set_option maxHeartbeats 3200000 in
theorem law_pr (rs : List Ru) (a : Option Addr) (c : Nat) (w : World) (hv : RusAt none w a rs) (hs0 : ListLe Ru.le maxLen rs) (ho : ∀ x ∈ rs, OpsOk x.exprs) (hn : ∀ x ∈ rs, RuN x) (hV : VarsAt w) :
    Calls Tryz.prog 5 #[.slice a rs.length c] w fun e w' => e = .returned (.bool true) ∧ Below w.heap.size w w' := by
  have HO := hidR ho
  have HN := hidR hn
  have HVA := hidR hV
  clear ho hn hV
  go_enter Tryz.func5, Tryz.ntmps5
  go_wp2_with (go_at_call 19; refine (szRuleS_any a c rs 1048576 _ hv hs0 (by omega) (by omega)).mono ?_; rintro e w0 ⟨⟨r1, rfl, hr1⟩, hb0⟩)
  · go_ret
    exact ⟨rfl, hb0⟩
  · have hsz : szL Ru.sz rs ≤ 1048576 := by rcases hr1 with h | ⟨_, h⟩ <;> omega
    have hle : ListLe Ru.le 1048576 rs := listLe Ru.le_sz hsz
    have hml : (prnt rs).length ≤ 100000000000 := prnt_le HN.out
    have hrw : rsW (rs.map rsOf) ≤ 8388608 := by
      have := rsW_sz rs
      omega
    have HV := hidR hv
    have TR := hidR (fun w' (h : Below w.heap.size w w') => toRuleS_any a c rs w' (HV.out.below h) hle)
    have SM := hidR (fun w' g B (h : RusAt (some B) w' (some ⟨g, 0, none⟩) rs) => sPrint_any rs (some ⟨g, 0, none⟩) rs.length _ w' h (Nat.le_refl _) hle HO.out HN.out)
    have IM := hidR (fun w' g B (h : RusAt (some B) w' (some ⟨g, 0, none⟩) rs) (hb : Below w.heap.size w w') => iPrint_any rs (some ⟨g, 0, none⟩) rs.length _ w' h (Nat.le_refl _) hle HO.out HN.out (HVA.out.below hb))
    generalize prnt rs = M at SM IM hml
    clear hr1 hs0 hv hsz
    go_wp2_with fail
    refine (TR.out w0 hb0).mono ?_
    rintro e w1 ⟨⟨g1, hg1, rfl, i1⟩, hb1⟩
    have hB1 : Below w.heap.size w w1 := hb0.trans (hb1.mono hb0.size)
    go_wp2_with fail
    refine (SM.out w1 g1 _ i1).mono ?_
    rintro e w2 ⟨⟨a2, c2, rfl, o2⟩, hb2⟩
    have hB2 : Below w.heap.size w w2 := hB1.trans (hb2.mono hB1.size)
    have O2 := hidR o2
    clear o2 i1 SM
    go_wp2_with fail
    refine (TR.out w2 hB2).mono ?_
    rintro e w3 ⟨⟨g3, hg3, rfl, i3⟩, hb3⟩
    have hB3 : Below w.heap.size w w3 := hB2.trans (hb3.mono hB2.size)
    have F3 := hidR (RusAt.nest i3 (Nat.le_refl _))
    have I3 := hidR i3
    have s23 := hb3.size
    clear i3
    go_wp2_with fail
    refine (IM.out w3 g3 _ I3.out hB3).mono ?_
    rintro e w4 ⟨⟨a4, c4, rfl, o4⟩, hb4⟩
    have hB4 : Below w.heap.size w w4 := hB3.trans (hb4.mono hB3.size)
    have s34 := hb4.size
    have G4 := hidR o4
    have OL4 := hidR ((O2.out.low hb3 (Nat.le_refl _)).low hb4 s23)
    clear o4
    go_wp2_with fail
    refine (eqByteS_same a4 a2 c4 c2 M _ (BysAt.owns G4.out) (OL4.out.at (by omega)) (by omega)).mono ?_
    rintro e w5 ⟨rfl, hb5⟩
    have hB5 : Below w.heap.size w w5 := hB4.trans (hb5.mono hB4.size)
    have s45 := hb5.size
    have G5 := hidR (own_bel G4.out hb5)
    have OL5 := hidR (OL4.out.low hb5 (by omega))
    clear G4 OL4
    go_wp2_with fail
    refine (TR.out w5 hB5).mono ?_
    rintro e w6 ⟨⟨g6, hg6, rfl, i6⟩, hb6⟩
    have hB6 : Below w.heap.size w w6 := hB5.trans (hb6.mono hB5.size)
    have s56 := hb6.size
    go_wp2_with fail
    refine (eqRuleS_same (some ⟨g3, 0, none⟩) (some ⟨g6, 0, none⟩) rs.length rs.length rs w6 (((I3.out.below hb4).below hb5).below hb6) i6 hle).mono ?_
    rintro e w7 ⟨rfl, hb7⟩
    have hB7 : Below w.heap.size w w7 := hB6.trans (hb7.mono hB6.size)
    have s67 := hb7.size
    have G7 := hidR (own_bel (own_bel G5.out hb6) hb7)
    have OL7 := hidR ((OL5.out.low hb6 (by omega)).low hb7 (by omega))
    have F7 := hidR ((((F3.out.tr (Tr.of_below (S := fun _ => True) hb4)).tr (Tr.of_below (S := fun _ => True) hb5)).tr (Tr.of_below (S := fun _ => True) hb6)).tr (Tr.of_below (S := fun _ => True) hb7))
    clear G5 OL5 F3 i6 I3
    have hMX := hidR (markRuleS_tr (Seg w2.heap.size w3.heap.size) (some ⟨g3, 0, none⟩) (rs.map rsOf) rs.length 1 w7 F7.out (by rw [List.length_map]; exact hle.1) (fun x hx => rs_le hle hx) (by omega) (by omega))
    rw [List.length_map] at hMX
    generalize rsW (rs.map rsOf) = RW at hMX hrw
    have b1 : ¬ (1 + (RW : Int)) < 0 := by omega
    go_wp2_with fail
    refine hMX.out.mono ?_
    rintro e w8 ⟨rfl, t8⟩
    have h8 : Below w.heap.size w7 w8 := t8.below hB7.size (fun g hg => by have h1 := hB2.size; have h2 := hg.1; omega)
    have hB8 : Below w.heap.size w w8 := hB7.trans h8
    have s78 := h8.size
    have G8 := hidR (ownsKeptP G7.out t8 (fun g hg hS => by have h1 := (G7.out.lt g hg).1; have h2 := hS.2; omega))
    have OL8 := hidR (OL7.out.keep fun b hb => t8.block b (by omega) (fun hS => by have h2 := hS.1; omega))
    clear G7 OL7 hMX F7 t8 h8
    go_wp2_with fail
    refine (eqByteS_same a4 a2 c4 c2 M _ (BysAt.owns G8.out) (OL8.out.at (by omega)) (by omega)).mono ?_
    rintro e w9 ⟨rfl, hb9⟩
    have hB9 : Below w.heap.size w w9 := hB8.trans (hb9.mono hB8.size)
    have s89 := hb9.size
    have G9 := hidR (own_bel G8.out hb9)
    have OL9 := hidR (OL8.out.low hb9 (by omega))
    clear G8 OL8 b1
    have hMS := hidR (markByteS_own a4 c4 (byV M) M.length _ w9 G9.out (byV_len M) (by omega))
    go_wp2_with fail
    refine hMS.out.mono ?_
    rintro e w10 ⟨rfl, g10, h10⟩
    have s910 := h10.size
    have hB10 : Below w.heap.size w w10 := hB9.trans (h10.mono hB3.size)
    have OL10 := hidR (OL9.out.low h10 s23)
    have G10 := hidR g10
    clear g10 hMS OL9 G9
    have hHS := hidR (heldByteS_own a4 c4 M.length _ w10 G10.out (by omega))
    have b4 : ¬ (1 + (M.length : Int)) < 0 := by omega
    go_wp2_with fail
    refine hHS.out.mono ?_
    rintro e w11 ⟨rfl, hb11⟩
    have hB11 : Below w.heap.size w w11 := hB10.trans (hb11.mono hB10.size)
    have OL11 := hidR (OL10.out.low hb11 (by omega))
    have s1011 := hb11.size
    clear OL10 G10 hHS
    go_wp2_with fail
    refine (TR.out w11 hB11).mono ?_
    rintro e w12 ⟨⟨g12, hg12, rfl, i12⟩, hb12⟩
    have hB12 : Below w.heap.size w w12 := hB11.trans (hb12.mono hB11.size)
    have I12 := hidR i12
    clear i12
    go_wp2_with fail
    refine (IM.out w12 g12 _ I12.out hB12).mono ?_
    rintro e w13 ⟨⟨a13, c13, rfl, o13⟩, hb13⟩
    have hB13 : Below w.heap.size w w13 := hB12.trans (hb13.mono hB12.size)
    have s1112 := hb12.size
    have s1213 := hb13.size
    have OL13 := hidR ((OL11.out.low hb12 (by omega)).low hb13 (by omega))
    go_wp2_with fail
    refine (eqByteS_same a13 a2 c13 c2 M _ (BysAt.owns o13) (OL13.out.at (by omega)) (by omega)).mono ?_
    rintro e w14 ⟨rfl, hb14⟩
    have hB14 : Below w.heap.size w w14 := hB13.trans (hb14.mono hB13.size)
    go_wp2_with fail
    go_ret
    exact ⟨rfl, hB14⟩
end Go.Proofs.YtfgpcjdjbbhdmaaGreatDoor
