/-
  OUR OWN TEXT. The law FnExactRecency, out of the contracts.
-/
import Derived.Test.YtajgedhmliekoaaRc2
import Derived.Test.YtajgedhmliekoaaRc3
import Derived.Test.YtajgedhmliekoaaSg
import Derived.Test.YtajgedhmliekoaaEqR
import Derived.Test.YtajgedhmliekoaaToR
import Derived.Test.YtajgedhmliekoaaNm0
namespace Go.Proofs.Ytajgedhmliekoaa
open Go.RowKit
attribute [local go_sem ↓] Go.wp_at_zero Go.wp_at_succ

theorem ownsBel {w w' : World} {base : Nat} {e : TypeId} {size : Nat} {v : Value} {n : Nat} {xs : List Value} (h : w.ownsRow base e size v n xs) (hb : Below w.heap.size w w') : w'.ownsRow base e size v n xs :=
  owns_of_block h fun g hg => hb.block g (h.lt g hg).2
theorem ownsKept {w w' : World} {base : Nat} {e : TypeId} {size : Nat} {v : Value} {n : Nat} {xs : List Value} (h : w.ownsRow base e size v n xs) {S : Nat → Prop} (ht : Tr S w w') (hs : ∀ g, v.ownBlock = some g → ¬ S g) : w'.ownsRow base e size v n xs :=
  owns_of_block h fun g hg => ht.block g (h.lt g hg).2 (hs g hg)

set_option maxHeartbeats 1600000 in
theorem law_rc (a : Option Addr) (c : Nat) (xs : List Int) (w : World) (hv : IntsAt none w a xs) (hl : xs.length ≤ maxLen) :
    Calls Try.prog 11 #[.slice a xs.length c] w fun e w' => e = .returned (.bool true) ∧ Below w.heap.size w w' := by
  unfold maxLen at hl
  by_cases hlx : 1048576 < xs.length
  · go_enter Try.func11, Try.ntmps11
    go_wp2
    go_ret
    exact ⟨rfl, Below.refl _ _⟩
  · have hlx' : xs.length ≤ 1048576 := by omega
    have hrl : (recA xs).length ≤ 1048576 := by
      have := recA_len xs
      omega
    go_enter Try.func11, Try.ntmps11
    go_wp2_with fail
    refine (toIntS_any a c xs _ hv hlx').mono ?_
    rintro e w1 ⟨⟨g1, hg1, rfl, i1⟩, hb1⟩
    have hB1 : Below w.heap.size w w1 := hb1
    go_wp2_with fail
    refine (sRec_any (some ⟨g1, 0, none⟩) xs.length xs _ i1 hlx').mono ?_
    rintro e w2 ⟨⟨a2, c2, rfl, o2⟩, hb2⟩
    have hB2 : Below w.heap.size w w2 := hB1.trans (hb2.mono hB1.size)
    have O2 := hidR o2
    have R2 := hidR (fun g (hg : (Value.slice a2 (recA xs).length c2).ownBlock = some g) => (o2.lt g hg).2)
    clear o2
    go_wp2_with fail
    refine (toIntS_any a c xs _ (hv.below hB2) hlx').mono ?_
    rintro e w3 ⟨⟨g3, hg3, rfl, i3⟩, hb3⟩
    have hB3 : Below w.heap.size w w3 := hB2.trans (hb3.mono hB2.size)
    have F3 := hidR (IntsAt.flat i3 (Nat.le_refl _))
    have s23 := hb3.size
    go_wp2_with fail
    refine (iRec_any g3 0 xs.length xs _ i3 hlx').mono ?_
    rintro e w4 ⟨⟨a4, c4, rfl, o4⟩, hb4⟩
    have hB4 : Below w.heap.size w w4 := hB3.trans (hb4.mono hB3.size)
    have s34 := hb4.size
    have G4 := hidR o4
    have OL4 := hidR (ownsBel (ownsBel O2.out hb3) hb4)
    clear o4
    go_wp2_with fail
    refine (eqIntS_same a4 a2 c4 c2 (recA xs) _ (IntsAt.owns G4.out) (IntsAt.owns OL4.out) hrl).mono ?_
    rintro e w5 ⟨rfl, hb5⟩
    have hB5 : Below w.heap.size w w5 := hB4.trans (hb5.mono hB4.size)
    have s45 := hb5.size
    have G5 := hidR (ownsBel G4.out hb5)
    have OL5 := hidR (ownsBel OL4.out hb5)
    clear G4 OL4
    go_wp2_with fail
    refine (toIntS_any a c xs _ (hv.below hB5) hlx').mono ?_
    rintro e w6 ⟨⟨g6, hg6, rfl, i6⟩, hb6⟩
    have hB6 : Below w.heap.size w w6 := hB5.trans (hb6.mono hB5.size)
    have s56 := hb6.size
    go_wp2_with fail
    refine (eqIntS_same (some ⟨g3, 0, none⟩) (some ⟨g6, 0, none⟩) xs.length xs.length xs _ (((i3.below hb4).below hb5).below hb6) i6 hlx').mono ?_
    rintro e w7 ⟨rfl, hb7⟩
    have hB7 : Below w.heap.size w w7 := hB6.trans (hb7.mono hB6.size)
    have s67 := hb7.size
    have G7 := hidR (ownsBel (ownsBel G5.out hb6) hb7)
    have OL7 := hidR (ownsBel (ownsBel OL5.out hb6) hb7)
    have F7 := hidR ((((F3.out.tr (Tr.of_below (S := fun _ => True) hb4)).tr (Tr.of_below (S := fun _ => True) hb5)).tr (Tr.of_below (S := fun _ => True) hb6)).tr (Tr.of_below (S := fun _ => True) hb7))
    clear G5 OL5 F3 i6 i1
    have hMX := hidR (markIntS_tr (Seg w2.heap.size w3.heap.size) (some ⟨g3, 0, none⟩) xs.length xs.length 1 w7 F7.out hlx' (by omega) (by omega))
    have b1 : ¬ (1 + (xs.length : Int)) < 0 := by omega
    go_wp2_with fail
    refine hMX.out.mono ?_
    rintro e w8 ⟨rfl, t8⟩
    have h8 : Below w.heap.size w7 w8 := t8.below hB7.size (fun g hg => by have h1 := hB2.size; have h2 := hg.1; omega)
    have hB8 : Below w.heap.size w w8 := hB7.trans h8
    have s78 := h8.size
    have G8 := hidR (ownsKept G7.out t8 (fun g hg hS => by have h1 := (G7.out.lt g hg).1; have h2 := hS.2; omega))
    have OL8 := hidR (ownsKept OL7.out t8 (fun g hg hS => by have h1 := R2.out g hg; have h2 := hS.1; omega))
    clear G7 OL7 hMX F7 t8 h8
    go_wp2_with fail
    refine (eqIntS_same a4 a2 c4 c2 (recA xs) _ (IntsAt.owns G8.out) (IntsAt.owns OL8.out) hrl).mono ?_
    rintro e w9 ⟨rfl, hb9⟩
    have hB9 : Below w.heap.size w w9 := hB8.trans (hb9.mono hB8.size)
    have s89 := hb9.size
    have G9 := hidR (ownsBel G8.out hb9)
    have OL9 := hidR (ownsBel OL8.out hb9)
    clear G8 OL8 b1
    have hMS := hidR (markIntS_own a4 c4 (recA xs) _ 1 w9 G9.out hrl (by omega) (by omega))
    go_wp2_with fail
    refine hMS.out.mono ?_
    rintro e w10 ⟨rfl, g10, k10⟩
    have h10 : Below w3.heap.size w9 w10 := k10.below (by omega) (fun g hg => (G9.out.lt g hg).1)
    have hB10 : Below w.heap.size w w10 := hB9.trans (h10.mono hB3.size)
    have OL10 := hidR (owns_of_block OL9.out fun g hg => h10.block g (by have := R2.out g hg; omega))
    have G10 := hidR (IntsAt.owns g10)
    clear g10 k10 hMS OL9 G9
    have hHS := hidR (heldIntS_any a4 c4 (recA xs).length 1 w10 G10.out hrl (by omega) (by omega))
    have b4 : ¬ (1 + ((recA xs).length : Int)) < 0 := by omega
    go_wp2_with fail
    refine hHS.out.mono ?_
    rintro e w11 ⟨rfl, hb11⟩
    have hB11 : Below w.heap.size w w11 := hB10.trans (hb11.mono hB10.size)
    have OL11 := hidR (ownsBel OL10.out hb11)
    clear OL10 G10 hHS
    go_wp2_with fail
    refine (toIntS_any a c xs _ (hv.below hB11) hlx').mono ?_
    rintro e w12 ⟨⟨g12, hg12, rfl, i12⟩, hb12⟩
    have hB12 : Below w.heap.size w w12 := hB11.trans (hb12.mono hB11.size)
    go_wp2_with fail
    refine (iRec_any g12 0 xs.length xs _ i12 hlx').mono ?_
    rintro e w13 ⟨⟨a13, c13, rfl, o13⟩, hb13⟩
    have hB13 : Below w.heap.size w w13 := hB12.trans (hb13.mono hB12.size)
    have OL13 := hidR (ownsBel (ownsBel OL11.out hb12) hb13)
    go_wp2_with fail
    refine (eqIntS_same a13 a2 c13 c2 (recA xs) _ (IntsAt.owns o13) (IntsAt.owns OL13.out) hrl).mono ?_
    rintro e w14 ⟨rfl, hb14⟩
    have hB14 : Below w.heap.size w w14 := hB13.trans (hb14.mono hB13.size)
    go_wp2_with fail
    go_ret
    exact ⟨rfl, hB14⟩
end Go.Proofs.Ytajgedhmliekoaa
