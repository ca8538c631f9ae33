/-
  OUR OWN TEXT. LawCf, RowCf, one behind the other.
-/
import Derived.Test.YtognpkdgphebeaaGreatUk
import Derived.Test.YtognpkdgphebeaaGreatWc
import Derived.Test.YtognpkdgphebeaaGreatCf2m
import Derived.Test.YtognpkdgphebeaaGreatWe
import Derived.Test.YtognpkdgphebeaaGreatWb
import Derived.Test.YtognpkdgphebeaaGreatKd
import Derived.Test.YtognpkdgphebeaaGreatKf
import Derived.Test.YtognpkdgphebeaaGreatJq
import Derived.Test.YtognpkdgphebeaaGreatUj
import Derived.WalkKit
import Derived.ProofKit
import Derived.OpenShut
import Derived.ShutString
import Derived.ChangeOld
import Derived.Below
namespace Go.Proofs.YtognpkdgphebeaaGreat
open Go.RowKit
attribute [local go_sem ↓] Go.wp_at_zero Go.wp_at_succ

theorem Iw.trK {w w' : World} {base : Nat} {a : Option Addr} {c : Nat} {M : List ItX} (h : Iw w base base a c M) {S : Nat → Prop} (ht : Tr S w w') (hs : ∀ g, InIt (.slice a M.length c) M g → ¬ S g) : Iw w' base base a c M :=
  h.kept fun g hg => ht.block g (h.range hg).2 (hs g hg)
theorem nest_sumC (fs : List F) : (fs.map fun f => f.slots.length).length + (fs.map fun f => f.slots.length).sum ≤ szFs fs := by
  have h : (fs.map fun f => f.slots.length).sum ≤ (fs.map szF).sum := by
    induction fs with
    | nil => exact Nat.le_refl _
    | cons f r ih =>
      have e : szF f = f.cls.size + szVs f.slots := rfl
      have e2 : f.slots.length ≤ szVs f.slots := by unfold szVs; omega
      simp only [List.map_cons, List.sum_cons]
      omega
  have e3 : szFs fs = fs.length + (fs.map szF).sum := rfl
  rw [List.length_map, e3]
  omega
theorem its_len {M : List ItX} {L : List It} (h : M.map Prod.fst = L) : M.length = L.length := by rw [← h, List.length_map]
set_option maxRecDepth 100000 in
set_option maxHeartbeats 12800000 in
theorem law_cf (rs : List Ru) (fs : List F) (a : Option Addr) (c : Nat) (fa : Option Addr) (fc : Nat) (w : World) (hv : RusAt none w a rs) (hs0 : ListLe Ru.le maxLen rs) (ho : ∀ x ∈ rs, OpsOk x.exprs) (hvo : ∀ r ∈ rs, ∀ p ∈ r.pats, ∀ t ∈ p.terms, VOk t.val) (h_f : FactsAt w fa fs) (hfa : Arg fs) :
    Calls Tryz.prog 6 #[.slice a rs.length c, .slice fa fs.length fc] w fun e w' => e = .returned (.bool true) ∧ Below w.heap.size w w' := by
  have HO := hidP ho
  have HVO := hidP hvo
  have HV := hidP hv
  have HF := hidP h_f
  have HFA := hidP hfa
  clear ho hvo hv h_f hfa
  go_enter Tryz.func6, Tryz.ntmps6
  go_wp2_with fail
  refine (szRuleS_any a c rs 1048576 _ HV.out hs0 (by omega) (by omega)).mono ?_
  rintro e w1 ⟨⟨r1, rfl, hr1⟩, hb1⟩
  have B1 := hidP hb1
  clear hb1 hs0
  by_cases hn1 : r1 < 0
  · go_wp2_with fail
    go_ret
    exact ⟨rfl, B1.out⟩
  have hsz : szL Ru.sz rs ≤ 1048576 := by rcases hr1 with h | ⟨_, h⟩ <;> omega
  have hr1a : 0 ≤ r1 := by omega
  have hr1b : r1 ≤ 1048576 := by rcases hr1 with h | ⟨_, h⟩ <;> omega
  have hle : ListLe Ru.le 1048576 rs := listLe Ru.le_sz hsz
  have hrw : rsW (rs.map rsOf) ≤ 8388608 := by
    have := rsW_sz rs
    omega
  have HLE := hidP hle
  have hrl : rs.length ≤ 1048576 := hle.1
  clear hr1 hsz hle
  go_wp2_with fail
  refine (szFactS_any fa fc fs r1 w1 (HF.out.below B1.out) HFA.out.1 HFA.out.sizes hr1a hr1b).mono ?_
  rintro e w2 ⟨⟨r2, rfl, hr2⟩, hb2⟩
  have B2 := hidP (B1.out.trans (hb2.mono B1.out.size))
  clear hb2 B1
  by_cases hn2 : r2 < 0
  · go_wp2_with fail
    go_ret
    exact ⟨rfl, B2.out⟩
  have hsz2 : szFs fs ≤ 1048576 := by rcases hr2 with h | ⟨_, h⟩ <;> omega
  have HFS := hidP (fun f hf => ((szFs_le hsz2).2 f hf).2.1 : ∀ f ∈ fs, f.slots.length ≤ 1048576)
  have hfl : fs.length ≤ 1048576 := (szFs_le hsz2).1
  have HSD := hidP (sized_of hsz2)
  have HNS := hidP (fun k : Int => (show nEnd 2 3 k (fs.map fun f => f.slots.length) ≤ k + 6291456 from Int.le_trans (nEnd_le (by omega) (by omega) _ _) (by have h1 := nest_sumC fs; omega)))
  have HNG := hidP (fun k : Int => nEnd_ge 2 3 (by omega) (by omega) (fs.map fun f => f.slots.length) k)
  have TR := hidP (fun w' (h : Below w.heap.size w w') => toRuleS_any a c rs w' (HV.out.below h) HLE.out)
  have TF := hidP (fun w' (h : Below w.heap.size w w') => toFactS_any fa fc fs w' (HF.out.below h) hfl HFS.out)
  have SC := hidP (fun w' g B f fc' (h : RusAt (some B) w' (some ⟨g, 0, none⟩) rs) (hf : FactsAt w' f fs) => sConflict_any rs fs (some ⟨g, 0, none⟩) rs.length f fc' w' h (Nat.le_refl _) HLE.out HO.out hf hfl HSD.out)
  have IC := hidP (fun w' g B f fc' (h : RusAt (some B) w' (some ⟨g, 0, none⟩) rs) (hf : FactsAt w' f fs) => iConflict_any rs fs (some ⟨g, 0, none⟩) rs.length f fc' w' h (Nat.le_refl _) HLE.out HO.out HVO.out hf hfl HSD.out)
  obtain ⟨hml', h6'⟩ := conf_bound rs fs
  obtain ⟨L, hL⟩ : ∃ l, l = confM rs fs := ⟨_, rfl⟩
  rw [← hL] at SC IC hml' h6'
  have hml : L.length ≤ 1048576 := by omega
  have H6 := hidP h6'
  have H6' := hidP (show ∀ x ∈ L, x.tags.length ≤ 1048576 from fun x hx => by have := h6' x hx; omega)
  have HN6 := hidP (show ∀ n ∈ lensOf L, n ≤ 6 from fun n hn => by obtain ⟨x, hx, rfl⟩ := List.mem_map.1 hn; exact h6' x hx)
  have EQ := hidP (fun a a' c c' w' (h : ItsAt w' a L) (h' : ItsAt w' a' L) => eqInstS_same a a' c c' L w' h h' hml H6'.out)
  clear hr2 hsz2 hr1a hr1b h6' hL hml'
  go_wp2_with fail
  refine (TR.out w2 B2.out).mono ?_
  rintro e w3 ⟨⟨g3, hg3, rfl, i3⟩, hb3⟩
  have B3 := hidP (B2.out.trans (hb3.mono B2.out.size))
  have s3 := hb3.size
  have I3 := hidP i3
  clear i3 hb3
  go_wp2_with fail
  refine (TF.out w3 B3.out).mono ?_
  rintro e w4 ⟨⟨rfl, gs4, ho4⟩, hb4⟩
  have B4 := hidP (B3.out.trans (hb4.mono B3.out.size))
  have s4 := hb4.size
  have I4 := hidP (I3.out.below hb4)
  have F4 := hidP ho4.at
  clear hb4 ho4 I3
  go_wp2_with fail
  refine (SC.out w4 g3 _ _ _ I4.out F4.out).mono ?_
  rintro e w5 ⟨⟨a5, c5, M5, rfl, io5, hm5⟩, hb5⟩
  have B5 := hidP (B4.out.trans (hb5.mono B4.out.size))
  have s5 := hb5.size
  have O5 := hidP io5
  have R5 := hidP (fun g (hg : InIt (.slice a5 M5.length c5) M5 g) => (io5.range hg).2)
  have HM5 := hidP hm5
  have hl5 := its_len hm5
  rw [hl5]
  clear io5 hm5 hb5 I4 F4 SC hl5
  go_wp2_with fail
  refine (TR.out w5 B5.out).mono ?_
  rintro e w6 ⟨⟨g6, hg6, rfl, i6⟩, hb6⟩
  have B6 := hidP (B5.out.trans (hb6.mono B5.out.size))
  have s6 := hb6.size
  have O6 := hidP (O5.out.bel hb6)
  have I6 := hidP i6
  have NR6 := hidP (RusAt.nest i6 (Nat.le_refl _))
  clear i6 hb6 O5
  go_wp2_with fail
  refine (TF.out w6 B6.out).mono ?_
  rintro e w7 ⟨⟨rfl, gs7, ho7⟩, hb7⟩
  have B7 := hidP (B6.out.trans (hb7.mono B6.out.size))
  have s7 := hb7.size
  have O7 := hidP (O6.out.bel hb7)
  have I7 := hidP (I6.out.below hb7)
  have NR7 := hidP (NR6.out.tr (Tr.of_below (S := fun _ => True) hb7))
  have F7 := hidP ho7.at
  have NF7 := hidP (OwnFs.nest ho7 (Nat.le_refl _) (Nat.le_refl _))
  obtain ⟨fb, hfb⟩ : ∃ b, b = w6.heap.size := ⟨_, rfl⟩
  rw [← hfb] at F7 NF7 ⊢
  have hfb1 : w6.heap.size ≤ fb := by omega
  clear hb7 ho7 I6 O6 NR6 hfb
  go_wp2_with fail
  refine (IC.out w7 g6 _ _ _ I7.out F7.out).mono ?_
  rintro e w8 ⟨⟨a8, c8, M8, rfl, io8, hm8, hp8⟩, hb8⟩
  have B8 := hidP (B7.out.trans (hb8.mono B7.out.size))
  have s8 := hb8.size
  have O8 := hidP (O7.out.bel hb8)
  have I8 := hidP (I7.out.below hb8)
  have F8 := hidP (F7.out.below hb8)
  have NR8 := hidP (NR7.out.tr (Tr.of_below (S := fun _ => True) hb8))
  have NF8 := hidP (NF7.out.tr (Tr.of_below (S := fun _ => True) hb8))
  have G8 := hidP io8
  have HM8 := hidP hm8
  have HP8 := hidP hp8
  have hl8 := its_len hm8
  rw [hl8]
  have HL8 := hidP hl8
  have EQ1 := hidP (fun w' (h : Iw w' w7.heap.size w7.heap.size a8 c8 M8) (h' : Iw w' w4.heap.size w4.heap.size a5 c5 M5) => EQ.out a8 a5 c8 c5 w' (by rw [← HM8.out]; exact h.at) (by rw [← HM5.out]; exact h'.at))
  clear io8 hm8 hp8 hb8 I7 F7 O7 NR7 NF7 hl8
  go_wp2_with fail
  refine (EQ1.out w8 G8.out O8.out).mono ?_
  rintro e w9 ⟨rfl, hb9⟩
  have B9 := hidP (B8.out.trans (hb9.mono B8.out.size))
  have s9 := hb9.size
  have O9 := hidP (O8.out.bel hb9)
  have G9 := hidP (G8.out.bel hb9)
  have I9 := hidP (I8.out.below hb9)
  have F9 := hidP (F8.out.below hb9)
  have NR9 := hidP (NR8.out.tr (Tr.of_below (S := fun _ => True) hb9))
  have NF9 := hidP (NF8.out.tr (Tr.of_below (S := fun _ => True) hb9))
  clear hb9 O8 G8 I8 F8 NR8 NF8
  go_wp2_with fail
  refine (TR.out w9 B9.out).mono ?_
  rintro e w10 ⟨⟨g10, hg10, rfl, i10⟩, hb10⟩
  have B10 := hidP (B9.out.trans (hb10.mono B9.out.size))
  have s10 := hb10.size
  have O10 := hidP (O9.out.bel hb10)
  have G10 := hidP (G9.out.bel hb10)
  have I10 := hidP (I9.out.below hb10)
  have F10 := hidP (F9.out.below hb10)
  have NR10 := hidP (NR9.out.tr (Tr.of_below (S := fun _ => True) hb10))
  have NF10 := hidP (NF9.out.tr (Tr.of_below (S := fun _ => True) hb10))
  clear hb10 O9 G9 I9 F9 NR9 NF9
  go_wp2_with fail
  refine (eqRuleS_same (some ⟨g6, 0, none⟩) (some ⟨g10, 0, none⟩) rs.length rs.length rs w10 I10.out i10 HLE.out).mono ?_
  rintro e w11 ⟨rfl, hb11⟩
  have B11 := hidP (B10.out.trans (hb11.mono B10.out.size))
  have s11 := hb11.size
  have O11 := hidP (O10.out.bel hb11)
  have G11 := hidP (G10.out.bel hb11)
  have F11 := hidP (F10.out.below hb11)
  have NR11 := hidP (NR10.out.tr (Tr.of_below (S := fun _ => True) hb11))
  have NF11 := hidP (NF10.out.tr (Tr.of_below (S := fun _ => True) hb11))
  clear hb11 i10 O10 G10 I10 F10 NR10 NF10
  go_wp2_with fail
  refine (TF.out w11 B11.out).mono ?_
  rintro e w12 ⟨⟨rfl, gs12, ho12⟩, hb12⟩
  have B12 := hidP (B11.out.trans (hb12.mono B11.out.size))
  have s12 := hb12.size
  have O12 := hidP (O11.out.bel hb12)
  have G12 := hidP (G11.out.bel hb12)
  have F12 := hidP (F11.out.below hb12)
  have NR12 := hidP (NR11.out.tr (Tr.of_below (S := fun _ => True) hb12))
  have NF12 := hidP (NF11.out.tr (Tr.of_below (S := fun _ => True) hb12))
  have H12 := hidP ho12.at
  clear hb12 ho12 O11 G11 F11 NR11 NF11
  go_wp2_with fail
  refine (eqFactS_same _ _ _ _ fs w12 F12.out H12.out hfl HFS.out).mono ?_
  rintro e w13 ⟨rfl, hb13⟩
  have B13 := hidP (B12.out.trans (hb13.mono B12.out.size))
  have s13 := hb13.size
  have O13 := hidP (O12.out.bel hb13)
  have G13 := hidP (G12.out.bel hb13)
  have NR13 := hidP (NR12.out.tr (Tr.of_below (S := fun _ => True) hb13))
  have NF13 := hidP (NF12.out.tr (Tr.of_below (S := fun _ => True) hb13))
  clear hb13 O12 G12 F12 H12 NR12 NF12
  have hMX := hidP (markRuleS_tr (Seg w5.heap.size w6.heap.size) (some ⟨g6, 0, none⟩) (rs.map rsOf) rs.length 1 w13 NR13.out (by rw [List.length_map]; exact hrl) (fun x hx => rs_le HLE.out hx) (by omega) (by omega))
  rw [List.length_map] at hMX
  obtain ⟨k1, hk1⟩ : ∃ z : Int, z = 1 + (rsW (rs.map rsOf) : Int) := ⟨_, rfl⟩
  rw [← hk1] at hMX
  have hk1a : 0 < k1 := by omega
  have hk1b : k1 ≤ 8388609 := by omega
  clear hk1 hrw
  go_wp2_with fail
  refine hMX.out.mono ?_
  rintro e w14 ⟨rfl, t14⟩
  have h14 : Below w.heap.size w13 w14 := t14.below B13.out.size (fun g hg => by have h1 := B5.out.size; have h2 := hg.1; omega)
  have B14 := hidP (B13.out.trans h14)
  have s14 := h14.size
  have G14 := hidP (G13.out.trK t14 (fun g hg hS => by have h1 := (G13.out.range hg).1; have h2 := hS.2; omega))
  have O14 := hidP (O13.out.trK t14 (fun g hg hS => by have h1 := R5.out g hg; have h2 := hS.1; omega))
  have NF14 := hidP (NF13.out.tr t14)
  clear G13 O13 NR13 NF13 t14 h14 hMX
  have hMF := hidP (markFactS_tr (Seg fb w7.heap.size) (some ⟨fb, 0, none⟩) (fs.map fun f => f.slots.length) fs.length k1 w14 NF14.out (by rw [List.length_map]; exact hfl) (fun n hn => by obtain ⟨f, hf, rfl⟩ := List.mem_map.1 hn; exact HFS.out f hf) hk1a (by have := HNS.out k1; omega))
  rw [List.length_map] at hMF
  obtain ⟨k2, hk2⟩ : ∃ z : Int, z = nEnd 2 3 k1 (fs.map fun f => f.slots.length) := ⟨_, rfl⟩
  have hk2a : 0 < k2 := by have := HNG.out k1; omega
  have hk2b : ¬ k2 < 0 := by omega
  rw [← hk2] at hMF
  clear hk2
  go_wp2_with fail
  refine hMF.out.mono ?_
  rintro e w15 ⟨rfl, t15⟩
  have h15 : Below w.heap.size w14 w15 := t15.below B14.out.size (fun g hg => by have h1 := B6.out.size; have h2 := hg.1; omega)
  have B15 := hidP (B14.out.trans h15)
  have s15 := h15.size
  have G15 := hidP (G14.out.trK t15 (fun g hg hS => by have h1 := (G14.out.range hg).1; have h2 := hS.2; omega))
  have O15 := hidP (O14.out.trK t15 (fun g hg hS => by have h1 := R5.out g hg; have h2 := hS.1; omega))
  clear G14 O14 NF14 t15 h15 hMF
  go_wp2_with fail
  refine (EQ1.out w15 G15.out O15.out).mono ?_
  rintro e w16 ⟨rfl, hb16⟩
  have B16 := hidP (B15.out.trans (hb16.mono B15.out.size))
  have s16 := hb16.size
  have O16 := hidP (O15.out.bel hb16)
  have G16 := hidP (G15.out.bel hb16)
  clear hb16 O15 G15 hk2b
  have HMI := hidP (markInstS_any M8 a8 c8 w7.heap.size w16 G16.out HP8.out (by rw [HL8.out]; exact hml) (by rw [HM8.out]; exact HN6.out) (by omega))
  rw [HL8.out, HM8.out] at HMI
  have hend := iEnd_le (N := 6) (lensOf L) 1 HN6.out
  have hlen : (lensOf L).length = L.length := by simp [lensOf]
  have b1 : ¬ iEnd 1 (lensOf L) < 0 := by omega
  obtain ⟨E, hE⟩ : ∃ z, z = iEnd 1 (lensOf L) := ⟨_, rfl⟩
  rw [← hE] at HMI b1
  go_wp2_with fail
  refine HMI.out.mono ?_
  rintro e w17 ⟨rfl, it17, h17⟩
  have B17 := hidP (B16.out.trans (h17.mono (by have := B7.out.size; omega)))
  have s17 := h17.size
  have O17 := hidP (O16.out.kept (fun g hg => h17.block g (by have := R5.out g hg; omega)))
  have HHI := hidP (heldInstS_any (lensOf L) a8 c8 w17 it17 (by rw [hlen]; exact hml) HN6.out)
  rw [hlen, ← hE] at HHI
  clear it17 h17 HMI O16 G16 hE hend hlen
  go_wp2_with fail
  refine HHI.out.mono ?_
  rintro e w18 ⟨rfl, hb18⟩
  have B18 := hidP (B17.out.trans (hb18.mono B17.out.size))
  have s18 := hb18.size
  have O18 := hidP (O17.out.bel hb18)
  clear hb18 O17 HHI
  go_wp2_with fail
  refine (TR.out w18 B18.out).mono ?_
  rintro e w19 ⟨⟨g19, hg19, rfl, i19⟩, hb19⟩
  have B19 := hidP (B18.out.trans (hb19.mono B18.out.size))
  have s19 := hb19.size
  have O19 := hidP (O18.out.bel hb19)
  have I19 := hidP i19
  clear i19 hb19 O18
  go_wp2_with fail
  refine (TF.out w19 B19.out).mono ?_
  rintro e w20 ⟨⟨rfl, gs20, ho20⟩, hb20⟩
  have B20 := hidP (B19.out.trans (hb20.mono B19.out.size))
  have s20 := hb20.size
  have O20 := hidP (O19.out.bel hb20)
  have I20 := hidP (I19.out.below hb20)
  have F20 := hidP ho20.at
  clear hb20 ho20 I19 O19
  go_wp2_with fail
  refine (IC.out w20 g19 _ _ _ I20.out F20.out).mono ?_
  rintro e w21 ⟨⟨a21, c21, M21, rfl, io21, hm21, _⟩, hb21⟩
  have B21 := hidP (B20.out.trans (hb21.mono B20.out.size))
  have s21 := hb21.size
  have O21 := hidP (O20.out.bel hb21)
  have G21 := hidP (show ItsAt w21 a21 L by rw [← hm21]; exact io21.at)
  have OA21 := hidP (show ItsAt w21 a5 L by rw [← HM5.out]; exact O21.out.at)
  have hl21 := its_len hm21
  rw [hl21]
  clear io21 hm21 hb21 I20 F20 O20 O21 hl21
  go_wp2_with fail
  refine (EQ.out a21 a5 c21 c5 w21 G21.out OA21.out).mono ?_
  rintro e w22 ⟨rfl, hb22⟩
  have B22 := hidP (B21.out.trans (hb22.mono B21.out.size))
  have s22 := hb22.size
  clear hb22 G21 OA21
  go_wp2_with fail
  go_ret
  exact ⟨rfl, B22.out⟩
end Go.Proofs.YtognpkdgphebeaaGreat

namespace Go.Proofs.YtognpkdgphebeaaGreat
open Go.ChangeShapes Go.WideShapes Go.ChangeAt Go.RowKit Go.Joins
open Go.ChangeMaps (open_string shut_string)

set_option maxRecDepth 100000 in
theorem cf_lifted (os : Os) (started : os.Started) (H : Type) (enc : TypeId × Value → H) :
    ReturnsInHanded {} Tryz.checked os 6 .any (Rows.fnExactConflictSpec.pre6 enc Tryz.prog Tryz.f6 Rows.fnExactConflictRow.domain false) (Rows.fnExactConflictSpec.post enc Tryz.prog Tryz.f6 false true false false) := by
  refine returnsInHanded_of_change (C := Tryz.checked) ownK started (by kernel_rfl) Tryz.func6
    (ChangeSpec.witness6 (enc := enc) (C := Tryz.checked) false ⟨#[], #[.slice none 0 0, .slice none 0 0], []⟩ 8 (by kernel_rfl) (by kernel_rfl) (by kernel_rfl) (by kernel_rfl)) ?_
  intro W base args ds gs before hval0 hW hcnd _
  have hval : ∀ (j : Nat) t v, Tryz.f6.params[j]? = some t → args[j]? = some v → Value.okWide Tryz.prog W .any base t v := hval0
  have hW' := hW
  obtain ⟨p, q, hA0, hV, rfl, hfz, hnd⟩ := hW
  have hA : DataW.TrodAll enc Tryz.prog W 0 (fun _ => true) true Tryz.f6.params.toList args.toList ds p := hA0
  rw [Tryz.params6] at hA hval
  obtain ⟨v0, vs0, d0, ds0, p0, q0, hargs, rfl, rfl, h0, r0⟩ := trodAll_cons hA
  obtain ⟨v1, vs1, d1, ds1, p1, q1, hvs1, rfl, rfl, h1, r1⟩ := trodAll_cons r0
  obtain ⟨rfl, rfl, rfl⟩ := trodAll_nil r1
  obtain rfl : args = #[v0, v1] := by cases args; simp_all
  obtain ⟨rfl, rfl⟩ := trodVars_none hV
  have k0 := h0
  have lt0 : ∀ x ∈ p0, x.block < W.heap.size := by obtain ⟨m, hm⟩ := k0; exact DataW.trod_lt m _ _ _ hm
  have k1 := h1
  have lt1 : ∀ x ∈ p1, x.block < W.heap.size := by obtain ⟨m, hm⟩ := k1; exact DataW.trod_lt m _ _ _ hm
  obtain ⟨sa, sn, sc, rfl⟩ := okWide_slice Tryz.underlying54 (hval 0 54 v0 rfl rfl)
  obtain ⟨m2, hm2⟩ := h0
  obtain ⟨sa', sc', rs, e4, hsv, _, hvm, hvs⟩ := rd_RulesV hm2
  simp only [Value.cells, List.cons.injEq, and_true, Value.slice.injEq] at e4
  obtain ⟨rfl, rfl, rfl⟩ := e4
  obtain ⟨fa, fn, fc, rfl⟩ := okWide_slice Tryz.underlying27 (hval 1 27 v1 rfl rfl)
  obtain ⟨m1, hm1⟩ := h1
  obtain ⟨fa', fc', fs, e1, hf, harg⟩ := rd_facts hm1
  simp only [Value.cells, List.cons.injEq, and_true, Value.slice.injEq] at e1
  obtain ⟨rfl, rfl, rfl⟩ := e1
  clear hA0 hval0
  refine (law_cf rs fs _ _ _ _ W hsv ⟨hvm, fun v hv => (hvs v hv).1.1⟩ (fun v hv => (hvs v hv).1.2) (fun v hv => (hvs v hv).2) hf harg).mono fun e W' ⟨he, bel⟩ => ?_
  subst he
  exact ⟨_, rfl, _, _, _, [], _, [], hW', trodAll_mk1 (shut_bool Tryz.underlying4 _), (trodAll_cons_mk (Below.trod laidOut (by kernel_rfl) (of_decide_eq_true (by kernel_rfl)) k0 bel lt0) (trodAll_cons_mk (Below.trod laidOut (by kernel_rfl) (of_decide_eq_true (by kernel_rfl)) k1 bel lt1) trodAll_mk0)), rfl, bel.frame _, fun h => by cases h⟩

theorem fnExactConflict_holds : Rows.FnExactConflictSaid :=
  OpenClaim.holds_of_wide 6 Tryz.f6 rfl rfl rfl rfl rfl rfl rfl ⟨rfl, rfl, rfl, rfl, rfl⟩ rfl rfl rfl rfl rfl (by kernel_rfl) Tryz.func6 (by kernel_rfl)
    (of_decide_eq_true (by kernel_rfl)) (by unfold Func.isWrapper; first | (rw [if_pos (by decide +kernel)]; kernel_rfl) | (rw [if_neg (by decide +kernel)]; exact ⟨rfl, rfl⟩))
    (fun os started H enc _ => cf_lifted os started H enc)
#print axioms fnExactConflict_holds
end Go.Proofs.YtognpkdgphebeaaGreat
