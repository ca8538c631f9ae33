/-
  OUR OWN TEXT. The law FnExactModes, out of the contracts.
-/
import Derived.Test.YtajgedhmliekoaaGreatMs8m
import Derived.Test.YtajgedhmliekoaaGreatKc
import Derived.Test.YtajgedhmliekoaaGreatKd
import Derived.Test.YtajgedhmliekoaaGreatKe
import Derived.Test.YtajgedhmliekoaaGreatKf
import Derived.Test.YtajgedhmliekoaaGreatKg
namespace Go.Proofs.YtajgedhmliekoaaGreat
open Go.RowKit
attribute [local go_sem ↓] Go.wp_at_zero Go.wp_at_succ

theorem ownsKeptM {w w' : World} {base : Nat} {e : TypeId} {size : Nat} {v : Value} {n : Nat} {xs : List Value} (h : w.ownsRow base e size v n xs) {S : Nat → Prop} (ht : Tr S w w') (hs : ∀ g, v.ownBlock = some g → ¬ S g) : w'.ownsRow base e size v n xs :=
  owns_of_block h fun g hg => ht.block g (h.lt g hg).2 (hs g hg)

set_option maxRecDepth 100000 in
set_option maxHeartbeats 3200000 in
theorem law_ms (rs : List Ru) (a : Option Addr) (c : Nat) (how : Int) (w : World) (hv : RusAt none w a rs) (hs0 : ListLe Ru.le maxLen rs) (ho : ∀ x ∈ rs, OpsOk x.exprs) :
    Calls Tryz.prog 4 #[.slice a rs.length c, .int .i64 how] w fun e w' => e = .returned (.bool true) ∧ Below w.heap.size w w' := by
  have HO := hidR ho
  clear ho
  go_enter Tryz.func4, Tryz.ntmps4
  go_wp2_with (go_at_call 5; refine (szRuleS_any a c rs 1048576 _ hv hs0 (by omega) (by omega)).mono ?_; rintro e w0 ⟨⟨r1, rfl, hr1⟩, hb0⟩)
  · go_ret
    exact ⟨rfl, hb0⟩
  · have hsz : szL Ru.sz rs ≤ 1048576 := by rcases hr1 with h | ⟨_, h⟩ <;> omega
    have hle : ListLe Ru.le 1048576 rs := listLe Ru.le_sz hsz
    have hml : (modesOf rs how).length ≤ 1048576 := Nat.le_trans (modesOf_len rs how) hle.1
    have hrw : rsW (rs.map rsOf) ≤ 8388608 := by
      have := rsW_sz rs
      omega
    have HV := hidR hv
    have TR := hidR (fun w' (h : Below w.heap.size w w') => toRuleS_any a c rs w' (HV.out.below h) hle)
    have SM := hidR (fun w' g B (h : RusAt (some B) w' (some ⟨g, 0, none⟩) rs) => sModes_any rs (some ⟨g, 0, none⟩) rs.length how w' h (Nat.le_refl _) hle HO.out)
    have IM := hidR (fun w' g B (h : RusAt (some B) w' (some ⟨g, 0, none⟩) rs) => iModes_any rs (some ⟨g, 0, none⟩) rs.length how w' h (Nat.le_refl _) hle HO.out)
    generalize modesOf rs how = M at SM IM hml
    clear hr1 hs0 hv hsz
    go_wp2_with fail
    refine (TR.out w0 hb0).mono ?_
    rintro e w1 ⟨⟨g1, hg1, rfl, i1⟩, hb1⟩
    have hB1 : Below w.heap.size w w1 := hb0.trans (hb1.mono hb0.size)
    go_wp2_with fail
    refine (SM.out w1 g1 _ i1).mono ?_
    rintro e w2 ⟨⟨a2, c2, rfl, o2⟩, hb2⟩
    have hB2 : Below w.heap.size w w2 := hB1.trans (hb2.mono hB1.size)
    have O2 := hidR o2
    have R2 := hidR (fun g (hg : (Value.slice a2 M.length c2).ownBlock = some g) => (o2.lt g hg).2)
    clear o2 i1 SM
    go_wp2_with fail
    refine (TR.out w2 hB2).mono ?_
    rintro e w3 ⟨⟨g3, hg3, rfl, i3⟩, hb3⟩
    have hB3 : Below w.heap.size w w3 := hB2.trans (hb3.mono hB2.size)
    have F3 := hidR (RusAt.nest i3 (Nat.le_refl _))
    have I3 := hidR i3
    have s23 := hb3.size
    clear i3
    go_wp2_with fail
    refine (IM.out w3 g3 _ I3.out).mono ?_
    rintro e w4 ⟨⟨a4, c4, rfl, o4⟩, hb4⟩
    have hB4 : Below w.heap.size w w4 := hB3.trans (hb4.mono hB3.size)
    have s34 := hb4.size
    have G4 := hidR o4
    have OL4 := hidR (ownsBM (ownsBM O2.out hb3) hb4)
    clear o4
    go_wp2_with fail
    refine (eqIntS_same a4 a2 c4 c2 M _ (IntsAt.owns G4.out) (IntsAt.owns OL4.out) hml).mono ?_
    rintro e w5 ⟨rfl, hb5⟩
    have hB5 : Below w.heap.size w w5 := hB4.trans (hb5.mono hB4.size)
    have s45 := hb5.size
    have G5 := hidR (ownsBM G4.out hb5)
    have OL5 := hidR (ownsBM OL4.out hb5)
    clear G4 OL4
    go_wp2_with fail
    refine (TR.out w5 hB5).mono ?_
    rintro e w6 ⟨⟨g6, hg6, rfl, i6⟩, hb6⟩
    have hB6 : Below w.heap.size w w6 := hB5.trans (hb6.mono hB5.size)
    have s56 := hb6.size
    go_wp2_with fail
    refine (eqRuleS_same (some ⟨g3, 0, none⟩) (some ⟨g6, 0, none⟩) rs.length rs.length rs w6 (((I3.out.below hb4).below hb5).below hb6) i6 hle).mono ?_
    rintro e w7 ⟨rfl, hb7⟩
    have hB7 : Below w.heap.size w w7 := hB6.trans (hb7.mono hB6.size)
    have s67 := hb7.size
    have G7 := hidR (ownsBM (ownsBM G5.out hb6) hb7)
    have OL7 := hidR (ownsBM (ownsBM OL5.out hb6) hb7)
    have F7 := hidR ((((F3.out.tr (Tr.of_below (S := fun _ => True) hb4)).tr (Tr.of_below (S := fun _ => True) hb5)).tr (Tr.of_below (S := fun _ => True) hb6)).tr (Tr.of_below (S := fun _ => True) hb7))
    clear G5 OL5 F3 i6 I3
    have hMX := hidR (markRuleS_tr (Seg w2.heap.size w3.heap.size) (some ⟨g3, 0, none⟩) (rs.map rsOf) rs.length 1 w7 F7.out (by rw [List.length_map]; exact hle.1) (fun x hx => rs_le hle hx) (by omega) (by omega))
    rw [List.length_map] at hMX
    generalize rsW (rs.map rsOf) = RW at hMX hrw
    have b1 : ¬ (1 + (RW : Int)) < 0 := by omega
    go_wp2_with fail
    refine hMX.out.mono ?_
    rintro e w8 ⟨rfl, t8⟩
    have h8 : Below w.heap.size w7 w8 := t8.below hB7.size (fun g hg => by have h1 := hB2.size; have h2 := hg.1; omega)
    have hB8 : Below w.heap.size w w8 := hB7.trans h8
    have s78 := h8.size
    have G8 := hidR (ownsKeptM G7.out t8 (fun g hg hS => by have h1 := (G7.out.lt g hg).1; have h2 := hS.2; omega))
    have OL8 := hidR (ownsKeptM OL7.out t8 (fun g hg hS => by have h1 := R2.out g hg; have h2 := hS.1; omega))
    clear G7 OL7 hMX F7 t8 h8
    go_wp2_with fail
    refine (eqIntS_same a4 a2 c4 c2 M _ (IntsAt.owns G8.out) (IntsAt.owns OL8.out) hml).mono ?_
    rintro e w9 ⟨rfl, hb9⟩
    have hB9 : Below w.heap.size w w9 := hB8.trans (hb9.mono hB8.size)
    have s89 := hb9.size
    have G9 := hidR (ownsBM G8.out hb9)
    have OL9 := hidR (ownsBM OL8.out hb9)
    clear G8 OL8 b1
    have hMS := hidR (markIntS_own a4 c4 M _ 1 w9 G9.out hml (by omega) (by omega))
    go_wp2_with fail
    refine hMS.out.mono ?_
    rintro e w10 ⟨rfl, g10, k10⟩
    have h10 : Below w3.heap.size w9 w10 := k10.below (by omega) (fun g hg => (G9.out.lt g hg).1)
    have hB10 : Below w.heap.size w w10 := hB9.trans (h10.mono hB3.size)
    have OL10 := hidR (owns_of_block OL9.out fun g hg => h10.block g (by have := R2.out g hg; omega))
    have G10 := hidR (IntsAt.owns g10)
    clear g10 k10 hMS OL9 G9
    have hHS := hidR (heldIntS_any a4 c4 M.length 1 w10 G10.out hml (by omega) (by omega))
    have b4 : ¬ (1 + (M.length : Int)) < 0 := by omega
    go_wp2_with fail
    refine hHS.out.mono ?_
    rintro e w11 ⟨rfl, hb11⟩
    have hB11 : Below w.heap.size w w11 := hB10.trans (hb11.mono hB10.size)
    have OL11 := hidR (ownsBM OL10.out hb11)
    clear OL10 G10 hHS
    go_wp2_with fail
    refine (TR.out w11 hB11).mono ?_
    rintro e w12 ⟨⟨g12, hg12, rfl, i12⟩, hb12⟩
    have hB12 : Below w.heap.size w w12 := hB11.trans (hb12.mono hB11.size)
    have I12 := hidR i12
    clear i12
    go_wp2_with fail
    refine (IM.out w12 g12 _ I12.out).mono ?_
    rintro e w13 ⟨⟨a13, c13, rfl, o13⟩, hb13⟩
    have hB13 : Below w.heap.size w w13 := hB12.trans (hb13.mono hB12.size)
    have OL13 := hidR (ownsBM (ownsBM OL11.out hb12) hb13)
    go_wp2_with fail
    refine (eqIntS_same a13 a2 c13 c2 M _ (IntsAt.owns o13) (IntsAt.owns OL13.out) hml).mono ?_
    rintro e w14 ⟨rfl, hb14⟩
    have hB14 : Below w.heap.size w w14 := hB13.trans (hb14.mono hB13.size)
    go_wp2_with fail
    go_ret
    exact ⟨rfl, hB14⟩
end Go.Proofs.YtajgedhmliekoaaGreat
