/-
  OUR OWN TEXT. LawBd, RowBd, one behind the other.
-/
import Derived.Test.YtognpkdgphebeaaGreatUk
import Derived.Test.YtognpkdgphebeaaGreatUp
import Derived.Test.YtognpkdgphebeaaGreatWf
import Derived.Test.YtognpkdgphebeaaGreatWb
import Derived.Test.YtognpkdgphebeaaGreatJq
import Derived.Test.YtognpkdgphebeaaGreatUj
import Derived.WalkKit
import Derived.ProofKit
import Derived.OpenShut
import Derived.ShutString
import Derived.ChangeOld
import Derived.Below
namespace Go.Proofs.YtognpkdgphebeaaGreat
open Go.RowKit
attribute [local go_sem ↓] Go.wp_at_zero Go.wp_at_succ

theorem ownsKeptP {w w' : World} {base : Nat} {e : TypeId} {size : Nat} {v : Value} {n : Nat} {xs : List Value} (h : w.ownsRow base e size v n xs) {S : Nat → Prop} (ht : Tr S w w') (hs : ∀ g, v.ownBlock = some g → ¬ S g) : w'.ownsRow base e size v n xs :=
  owns_of_block h fun g hg => ht.block g (h.lt g hg).2 (hs g hg)
theorem nest_sum (fs : List F) : (fs.map fun f => f.slots.length).length + (fs.map fun f => f.slots.length).sum ≤ szFs fs := by
  have h : (fs.map fun f => f.slots.length).sum ≤ (fs.map szF).sum := by
    induction fs with
    | nil => exact Nat.le_refl _
    | cons f r ih =>
      have e : szF f = f.cls.size + szVs f.slots := rfl
      have e2 : f.slots.length ≤ szVs f.slots := by unfold szVs; omega
      simp only [List.map_cons, List.sum_cons]
      omega
  have e3 : szFs fs = fs.length + (fs.map szF).sum := rfl
  rw [List.length_map, e3]
  omega

set_option maxRecDepth 100000 in
set_option maxHeartbeats 12800000 in
theorem law_bd (r : Ru) (fs : List F) (tags : List Int) (a_p : Option Addr) (c_p : Nat) (a_e : Option Addr) (c_e : Nat) (a_a : Option Addr) (c_a : Nat) (fa : Option Addr) (fc : Nat) (ta : Option Addr) (tc : Nat) (w : World) (h_p : PtsAt none w a_p r.pats) (h_e : ExsAt none w a_e r.exprs) (h_a : AcsAt none w a_a r.acts) (hle0 : r.le maxLen) (ho : OpsOk r.exprs) (hvo : ∀ p ∈ r.pats, ∀ t ∈ p.terms, VOk t.val) (h_f : FactsAt w fa fs) (hfa : Arg fs) (h_t : IntsAt none w ta tags) (htw : ∀ t ∈ tags, (Lit.int .i64 t).wf = true) :
    Calls Tryz.prog 4 #[.agg #[.string r.name, .int .i64 r.sal, .slice a_p r.pats.length c_p, .slice a_e r.exprs.length c_e, .slice a_a r.acts.length c_a], .slice fa fs.length fc, .slice ta tags.length tc] w fun e w' => e = .returned (.bool true) ∧ Below w.heap.size w w' := by
  have HP := hidP h_p
  have HE := hidP h_e
  have HA := hidP h_a
  have HLE := hidP hle0
  have HOP := hidP ho
  have HVO := hidP hvo
  have HF := hidP h_f
  have HFA := hidP hfa
  have HRD := hidP (fun f hf => (hfa.2 f hf).2.2 : ∀ f ∈ fs, Read f)
  have HT := hidP h_t
  have HTW := hidP htw
  clear h_t htw
  clear h_p h_e h_a hle0 ho hvo h_f hfa
  go_enter Tryz.func4, Tryz.ntmps4
  go_upto_region 1 with fail
  refine lift_alloc ?_
  intro w0 hW0 hq0
  have BX0 := hidP hq0
  have B0 := hidP hW0
  obtain ⟨b0, b1, b2, b3, b4⟩ := cells5P hq0
  clear hW0 hq0
  by_cases htl : 1048576 < tags.length
  · have htl' : (1048576 : Int) < (tags.length : Int) := by omega
    go_wp2_with fail
    go_ret
    exact ⟨rfl, B0.out⟩
  have htl' : ¬ (1048576 : Int) < (tags.length : Int) := by omega
  have htl2 : tags.length ≤ 1048576 := by omega
  go_wp2_with fail
  refine (szRule_any r a_p c_p a_e c_e a_a c_a 1048576 w0 (HP.out.below B0.out) (HE.out.below B0.out) (HA.out.below B0.out) HLE.out (by omega) (by omega)).mono ?_
  rintro e w1 ⟨⟨r1, rfl, hr1⟩, hb1⟩
  have B1 := hidP (B0.out.trans (hb1.mono B0.out.size))
  have BX1 := hidP ((hb1.block _ (lt_of_block' BX0.out)).trans BX0.out)
  clear hb1 b0 b1 b2 b3 b4 B0 BX0
  by_cases hn1 : r1 < 0
  · go_wp2_with fail
    go_ret
    exact ⟨rfl, B1.out⟩
  have hsz1 : r.sz ≤ 1048576 := by rcases hr1 with h | ⟨_, h⟩ <;> omega
  have hr1a : 0 ≤ r1 := by omega
  have hr1b : r1 ≤ 1048576 := by rcases hr1 with h | ⟨_, h⟩ <;> omega
  have HLR := hidP (Ru.le_sz _ _ hsz1)
  have HSZ1 := hidP hsz1
  have HL0 := hidP (show ListLe Ru.le 1048576 [r] from ⟨by simp, fun x hx => by rw [List.mem_singleton.1 hx]; exact HLR.out⟩)
  clear hr1 hsz1
  go_wp2_with fail
  refine (szFactS_any fa fc fs r1 w1 (HF.out.below B1.out) HFA.out.1 HFA.out.sizes hr1a hr1b).mono ?_
  rintro e w2 ⟨⟨r2, rfl, hr2⟩, hb2⟩
  have B2 := hidP (B1.out.trans (hb2.mono B1.out.size))
  have BX2 := hidP ((hb2.block _ (lt_of_block' BX1.out)).trans BX1.out)
  clear hb2 B1 BX1
  by_cases hn2 : r2 < 0
  · go_wp2_with fail
    go_ret
    exact ⟨rfl, B2.out⟩
  have hsz2 : szFs fs ≤ 1048576 := by rcases hr2 with h | ⟨_, h⟩ <;> omega
  have HFS := hidP (fun f hf => ((szFs_le hsz2).2 f hf).2.1 : ∀ f ∈ fs, f.slots.length ≤ 1048576)
  have hfl : fs.length ≤ 1048576 := (szFs_le hsz2).1
  have HSD := hidP (sized_of hsz2)
  have HML := hidP (show ListLe Bd.le 1048576 (bindsM r fs tags) from bindsM_le HLR.out (fun f hf v hv => ((szFs_le hsz2).2 f hf).2.2 v hv))
  have HR1 := hidP (show (rW1 (rsOf r) : Int) ≤ 8388608 by have h1 := rW1_le r; have h2 := HSZ1.out; omega)
  have HRL := hidP (show RSle (rsOf r) from rs_le HL0.out (List.mem_map.2 ⟨r, List.mem_singleton.2 rfl, rfl⟩))
  have HNS := hidP (fun k : Int => (show nEnd 2 3 k (fs.map fun f => f.slots.length) ≤ k + 6291456 from Int.le_trans (nEnd_le (by omega) (by omega) _ _) (by have h1 := nest_sum fs; omega)))
  have HNG := hidP (fun k : Int => nEnd_ge 2 3 (by omega) (by omega) (fs.map fun f => f.slots.length) k)
  have HL1 := hidP (show ListLe Ru.le 1048576 [r] from ⟨by simp, fun x hx => by rw [List.mem_singleton.1 hx]; exact HLR.out⟩)
  clear hr2 hsz2 hr1a hr1b
  obtain ⟨b0, b1, b2, b3, b4⟩ := cells5P BX2.out
  go_wp2_with fail
  refine (toRule_any r a_p c_p a_e c_e a_a c_a w2 (HP.out.below B2.out) (HE.out.below B2.out) (HA.out.below B2.out) HLR.out).mono ?_
  rintro e w3 ⟨⟨a_p3, c_p3, a_e3, c_e3, a_a3, c_a3, rfl, p3, e3, a3, hc3⟩, hb3⟩
  have B3 := hidP (B2.out.trans (hb3.mono B2.out.size))
  have BX3 := hidP ((hb3.block _ (lt_of_block' BX2.out)).trans BX2.out)
  have P3 := hidP p3
  have E3 := hidP e3
  have A3 := hidP a3
  clear hb3 p3 e3 a3 b0 b1 b2 b3 b4 B2 BX2
  go_wp2_with fail
  refine (toFactS_any fa fc fs w3 (HF.out.below B3.out) hfl HFS.out).mono ?_
  rintro e w4 ⟨⟨rfl, gs4, ho4⟩, hb4⟩
  have B4 := hidP (B3.out.trans (hb4.mono B3.out.size))
  have BX4 := hidP ((hb4.block _ (lt_of_block' BX3.out)).trans BX3.out)
  have P4 := hidP (P3.out.below hb4)
  have E4 := hidP (E3.out.below hb4)
  have A4 := hidP (A3.out.below hb4)
  have F4 := hidP ho4.at
  clear hb4 ho4 P3 E3 A3 B3 BX3
  go_wp2_with fail
  refine (toIntS_any ta tc tags w4 (HT.out.below B4.out) htl2).mono ?_
  rintro e w5 ⟨⟨g5, _, rfl, ho5⟩, hb5⟩
  have T5 := hidP ho5
  clear ho5
  have B5 := hidP (B4.out.trans (hb5.mono B4.out.size))
  have BX5 := hidP ((hb5.block _ (lt_of_block' BX4.out)).trans BX4.out)
  have P5 := hidP (P4.out.below hb5)
  have E5 := hidP (E4.out.below hb5)
  have A5 := hidP (A4.out.below hb5)
  have F5 := hidP (F4.out.below hb5)
  clear hb5 P4 E4 A4 F4 B4 BX4
  go_wp2_with fail
  have SB := hidP (fun (a_p : Option Addr) (c_p : Nat) (a_e : Option Addr) (c_e : Nat) (a_a : Option Addr) (c_a : Nat) (fa : Option Addr) (fc : Nat) (ta : Option Addr) (tc : Nat) (q q' : Option Nat) (w : World) (h_p : PtsAt q w a_p r.pats) (h_e : ExsAt q w a_e r.exprs) (h_a : AcsAt q w a_a r.acts) (hce : r.exprs.length ≤ c_e) (h_f : FactsAt w fa fs) (h_t : IntsAt q' w ta tags) => sBindings_any r fs tags a_p c_p a_e c_e a_a c_a fa fc ta tc w h_p h_e h_a hce HL1.out HOP.out h_f hfl HSD.out h_t)
  have IB := hidP (fun (a_p : Option Addr) (c_p : Nat) (a_e : Option Addr) (c_e : Nat) (a_a : Option Addr) (c_a : Nat) (fa : Option Addr) (fc : Nat) (ta : Option Addr) (tc : Nat) (q q' : Option Nat) (w : World) (h_p : PtsAt q w a_p r.pats) (h_e : ExsAt q w a_e r.exprs) (h_a : AcsAt q w a_a r.acts) (hce : r.exprs.length ≤ c_e) (h_f : FactsAt w fa fs) (h_t : IntsAt q' w ta tags) => iBindings_any r fs tags a_p c_p a_e c_e a_a c_a fa fc ta tc w h_p h_e h_a hce HL1.out HOP.out HVO.out h_f hfl HSD.out HRD.out h_t htl2 HTW.out)
  obtain ⟨M, hM⟩ : ∃ l, l = bindsM r fs tags := ⟨_, rfl⟩
  rw [← hM] at SB IB HML
  clear hM HSD HRD HOP HVO
  have hml : M.length ≤ 1048576 := HML.out.1
  refine (SB.out _ _ _ _ _ _ _ _ _ _ _ _ w5 P5.out E5.out A5.out hc3 F5.out T5.out).mono ?_
  rintro e w6 ⟨⟨a6, c6, rfl, ow6⟩, hb6⟩
  have B6 := hidP (B5.out.trans (hb6.mono B5.out.size))
  have BX6 := hidP ((hb6.block _ (lt_of_block' BX5.out)).trans BX5.out)
  have O6 := hidP ow6
  have R6 := hidP (fun g (hg : (Value.slice a6 M.length c6).ownBlock = some g) => (ow6.lt g hg).2)
  obtain ⟨b0, b1, b2, b3, b4⟩ := cells5P BX6.out
  have hx6 : w.heap.size < w6.heap.size := lt_of_block' BX6.out
  clear hb6 ow6 P5 E5 A5 F5 B5 BX5 hc3 T5 SB
  go_wp2_with fail
  refine (toRule_any r a_p c_p a_e c_e a_a c_a w6 (HP.out.below B6.out) (HE.out.below B6.out) (HA.out.below B6.out) HLR.out).mono ?_
  rintro e w7 ⟨⟨a_p7, c_p7, a_e7, c_e7, a_a7, c_a7, rfl, p7, e7, a7, hc7⟩, hb7⟩
  have B7 := hidP (B6.out.trans (hb7.mono B6.out.size))
  have BX7 := hidP ((hb7.block _ (lt_of_block' BX6.out)).trans BX6.out)
  have O7 := hidP (own_bel O6.out hb7)
  have P7 := hidP p7
  have E7 := hidP e7
  have A7 := hidP a7
  have N7 := hidP (And.intro (PtsAt.nest p7 (Nat.le_refl _)) (And.intro (ExsAt.flat e7 (Nat.le_refl _)) (AcsAt.nest a7 (Nat.le_refl _))))
  have s67 := hb7.size
  clear hb7 p7 e7 a7 b0 b1 b2 b3 b4 B6 BX6 O6
  go_upto_region 12 with fail
  refine lift_alloc ?_
  intro w8 hW8 hq8
  obtain ⟨xb, hxb⟩ : ∃ b, b = w7.heap.size := ⟨_, rfl⟩
  rw [← hxb] at hq8 ⊢
  have BY8 := hidP hq8
  have B8 := hidP (B7.out.trans (hW8.mono B7.out.size))
  have BX8 := hidP ((hW8.block _ (lt_of_block' BX7.out)).trans BX7.out)
  have P8 := hidP (P7.out.below hW8)
  have E8 := hidP (E7.out.below hW8)
  have A8 := hidP (A7.out.below hW8)
  have O8 := hidP (own_bel O7.out hW8)
  have T78 := hidP (Tr.of_below (S := fun _ => True) hW8)
  have N8 := hidP (And.intro (N7.out.1.tr T78.out) (And.intro (N7.out.2.1.tr T78.out) (N7.out.2.2.tr T78.out)))
  have s78 := hW8.size
  have hxb2 : w7.heap.size ≤ xb := by omega
  clear hW8 hq8 hxb P7 E7 A7 B7 BX7 O7 N7 T78
  go_wp2_with fail
  refine (toFactS_any fa fc fs w8 (HF.out.below B8.out) hfl HFS.out).mono ?_
  rintro e w9 ⟨⟨rfl, gs9, ho9⟩, hb9⟩
  have B9 := hidP (B8.out.trans (hb9.mono B8.out.size))
  have BX9 := hidP ((hb9.block _ (lt_of_block' BX8.out)).trans BX8.out)
  have BY9 := hidP ((hb9.block _ (lt_of_block' BY8.out)).trans BY8.out)
  have P9 := hidP (P8.out.below hb9)
  have E9 := hidP (E8.out.below hb9)
  have A9 := hidP (A8.out.below hb9)
  have O9 := hidP (own_bel O8.out hb9)
  have T89 := hidP (Tr.of_below (S := fun _ => True) hb9)
  have N9 := hidP (And.intro (N8.out.1.tr T89.out) (And.intro (N8.out.2.1.tr T89.out) (N8.out.2.2.tr T89.out)))
  have F9 := hidP ho9.at
  have NF9 := hidP (OwnFs.nest ho9 (Nat.le_refl _) (Nat.le_refl _))
  obtain ⟨fb, hfb⟩ : ∃ b, b = w8.heap.size := ⟨_, rfl⟩
  rw [← hfb] at F9 NF9 ⊢
  have hfb1 : w7.heap.size ≤ fb := by omega
  have s89 := hb9.size
  clear hb9 ho9 hfb P8 E8 A8 B8 BX8 BY8 O8 N8 T89
  go_wp2_with fail
  refine (toIntS_any ta tc tags w9 (HT.out.below B9.out) htl2).mono ?_
  rintro e w10 ⟨⟨g10, _, rfl, ho10⟩, hb10⟩
  have T10 := hidP ho10
  have NT10 := hidP (IntsAt.flat ho10 (Nat.le_refl _))
  clear ho10
  have B10 := hidP (B9.out.trans (hb10.mono B9.out.size))
  have BX10 := hidP ((hb10.block _ (lt_of_block' BX9.out)).trans BX9.out)
  have BY10 := hidP ((hb10.block _ (lt_of_block' BY9.out)).trans BY9.out)
  have P10 := hidP (P9.out.below hb10)
  have E10 := hidP (E9.out.below hb10)
  have A10 := hidP (A9.out.below hb10)
  have F10 := hidP (F9.out.below hb10)
  have O10 := hidP (own_bel O9.out hb10)
  have T910 := hidP (Tr.of_below (S := fun _ => True) hb10)
  have N10 := hidP (And.intro (N9.out.1.tr T910.out) (And.intro (N9.out.2.1.tr T910.out) (N9.out.2.2.tr T910.out)))
  have NF10 := hidP (NF9.out.tr T910.out)
  have s910 := hb10.size
  clear hb10 P9 E9 A9 F9 B9 BX9 BY9 O9 N9 NF9 T910
  obtain ⟨b0, b1, b2, b3, b4⟩ := cells5P BY10.out
  go_wp2_with fail
  refine (IB.out _ _ _ _ _ _ _ _ _ _ _ _ w10 P10.out E10.out A10.out hc7 F10.out T10.out).mono ?_
  rintro e w11 ⟨⟨a11, c11, rfl, ow11⟩, hb11⟩
  have B11 := hidP (B10.out.trans (hb11.mono B10.out.size))
  have BX11 := hidP ((hb11.block _ (lt_of_block' BX10.out)).trans BX10.out)
  have BY11 := hidP ((hb11.block _ (lt_of_block' BY10.out)).trans BY10.out)
  have P11 := hidP (P10.out.below hb11)
  have E11 := hidP (E10.out.below hb11)
  have A11 := hidP (A10.out.below hb11)
  have F11 := hidP (F10.out.below hb11)
  have T11 := hidP (IntsAt.below T10.out hb11)
  have O11 := hidP (own_bel O10.out hb11)
  have G11 := hidP ow11
  have T1011 := hidP (Tr.of_below (S := fun _ => True) hb11)
  have N11 := hidP (And.intro (N10.out.1.tr T1011.out) (And.intro (N10.out.2.1.tr T1011.out) (N10.out.2.2.tr T1011.out)))
  have NF11 := hidP (NF10.out.tr T1011.out)
  have NT11 := hidP (NT10.out.tr T1011.out)
  have s1011 := hb11.size
  clear hb11 ow11 P10 E10 A10 F10 B10 BX10 BY10 b0 b1 b2 b3 b4 T10 O10 N10 NF10 NT10 T1011
  go_wp2_with fail
  refine (eqBindS_same a11 a6 c11 c6 M _ (BdsAt.owns G11.out) (BdsAt.owns O11.out) HML.out).mono ?_
  rintro e w12 ⟨rfl, hb12⟩
  have B12 := hidP (B11.out.trans (hb12.mono B11.out.size))
  have BX12 := hidP ((hb12.block _ (lt_of_block' BX11.out)).trans BX11.out)
  have BY12 := hidP ((hb12.block _ (lt_of_block' BY11.out)).trans BY11.out)
  have P12 := hidP (P11.out.below hb12)
  have E12 := hidP (E11.out.below hb12)
  have A12 := hidP (A11.out.below hb12)
  have F12 := hidP (F11.out.below hb12)
  have T12 := hidP (IntsAt.below T11.out hb12)
  have O12 := hidP (own_bel O11.out hb12)
  have G12 := hidP (own_bel G11.out hb12)
  have T1112 := hidP (Tr.of_below (S := fun _ => True) hb12)
  have N12 := hidP (And.intro (N11.out.1.tr T1112.out) (And.intro (N11.out.2.1.tr T1112.out) (N11.out.2.2.tr T1112.out)))
  have NF12 := hidP (NF11.out.tr T1112.out)
  have NT12 := hidP (NT11.out.tr T1112.out)
  have s1112 := hb12.size
  clear hb12 P11 E11 A11 F11 B11 BX11 BY11 T11 O11 G11 N11 NF11 NT11 T1112
  go_wp2_with fail
  obtain ⟨x0, x1, x2, x3, x4⟩ := cells5P BX12.out
  obtain ⟨y0, y1, y2, y3, y4⟩ := cells5P BY12.out
  have B12d := hidP (show Below w.heap.size w w12.drew from B12.out.drew)
  have D12 := hidP (show Below w12.heap.size w12 w12.drew from (Below.refl _ _).drew)
  go_region_held3 (fun w' => w'.cell? ⟨w.heap.size, 0, none⟩ = some (.string r.name) ∧ w'.cell? ⟨w.heap.size, 1, none⟩ = some (.int .i64 r.sal) ∧ w'.cell? ⟨w.heap.size, 2, none⟩ = some (.slice a_p r.pats.length c_p) ∧ w'.cell? ⟨w.heap.size, 3, none⟩ = some (.slice a_e r.exprs.length c_e) ∧ w'.cell? ⟨w.heap.size, 4, none⟩ = some (.slice a_a r.acts.length c_a) ∧ w'.cell? ⟨xb, 0, none⟩ = some (.string r.name) ∧ w'.cell? ⟨xb, 1, none⟩ = some (.int .i64 r.sal) ∧ w'.cell? ⟨xb, 2, none⟩ = some (.slice a_p7 r.pats.length c_p7) ∧ w'.cell? ⟨xb, 3, none⟩ = some (.slice a_e7 r.exprs.length c_e7) ∧ w'.cell? ⟨xb, 4, none⟩ = some (.slice a_a7 r.acts.length c_a7)) ((go_split_ands; refine ⟨?_, ?_, ?_, ?_, ?_, ?_, ?_, ?_, ?_, ?_⟩ <;> first | (simp [*]; done) | exact cell_below hb' (by assumption)))
    (first
     | (go_at_call 10; refine (toRule_any r a_p c_p a_e c_e a_a c_a _ (HP.out.below B12d.out) (HE.out.below B12d.out) (HA.out.below B12d.out) HLR.out).mono ?_; rintro e w13 ⟨⟨a_p13, c_p13, a_e13, c_e13, a_a13, c_a13, rfl, p13, e13, a13, _⟩, hb'⟩; have P13 := hidP p13; have E13 := hidP e13; have A13 := hidP a13; have D13 := hidP (D12.out.trans (hb'.mono D12.out.size)); clear p13 e13 a13)
     | (go_at_call 14; refine (eqRule_same r a_p7 a_p13 c_p7 c_p13 a_e7 a_e13 c_e7 c_e13 a_a7 a_a13 c_a7 c_a13 w13 (P12.out.below D13.out) P13.out (E12.out.below D13.out) E13.out (A12.out.below D13.out) A13.out HLR.out).mono ?_; rintro e w14 ⟨rfl, hb'⟩; have D14 := hidP (D13.out.trans (hb'.mono D13.out.size)))
     | fail)
  have B14 := hidP (B12.out.trans (D14.out.mono B12.out.size))
  have F14 := hidP (F12.out.below D14.out)
  have T14 := hidP (IntsAt.below T12.out D14.out)
  have s14 := D14.out.size
  clear x0 x1 x2 x3 x4 y0 y1 y2 y3 y4 P12 E12 A12 F12 B12 B12d D12 D13 P13 E13 A13 T12
  go_wp2_with fail
  refine (toFactS_any fa fc fs _ (HF.out.below B14.out) hfl HFS.out).mono ?_
  rintro e w15 ⟨⟨rfl, gs15, ho15⟩, hb15⟩
  have B15 := hidP (B14.out.trans (hb15.mono B14.out.size))
  have D15 := hidP (D14.out.trans (hb15.mono D14.out.size))
  have F15 := hidP (F14.out.below hb15)
  have H15 := hidP ho15.at
  have T15 := hidP (IntsAt.below T14.out hb15)
  clear hb15 ho15 B14 F14 D14 T14
  go_wp2_with fail
  refine (eqFactS_same _ _ _ _ fs w15 F15.out H15.out hfl HFS.out).mono ?_
  rintro e w16 ⟨rfl, hb16⟩
  have B16 := hidP (B15.out.trans (hb16.mono B15.out.size))
  have D16 := hidP (D15.out.trans (hb16.mono D15.out.size))
  have T16 := hidP (IntsAt.below T15.out hb16)
  clear hb16 B15 F15 H15 D15 T15
  go_wp2_with fail
  refine (toIntS_any ta tc tags w16 (HT.out.below B16.out) htl2).mono ?_
  rintro e w17 ⟨⟨g17, _, rfl, ho17⟩, hb17⟩
  have B17 := hidP (B16.out.trans (hb17.mono B16.out.size))
  have D17 := hidP (D16.out.trans (hb17.mono D16.out.size))
  have T17 := hidP (IntsAt.below T16.out hb17)
  have U17 := hidP ho17
  clear hb17 ho17 B16 T16 D16
  go_wp2_with fail
  refine (eqIntS_same _ _ _ _ tags w17 T17.out U17.out htl2).mono ?_
  rintro e w18 ⟨rfl, hb18⟩
  have B18 := hidP (B17.out.trans (hb18.mono B17.out.size))
  have D18 := hidP (D17.out.trans (hb18.mono D17.out.size))
  have BX18 := hidP ((D18.out.block _ (lt_of_block' BX12.out)).trans BX12.out)
  have BY18 := hidP ((D18.out.block _ (lt_of_block' BY12.out)).trans BY12.out)
  have O18 := hidP (own_bel O12.out D18.out)
  have G18 := hidP (own_bel G12.out D18.out)
  have T1218 := hidP (Tr.of_below (S := fun _ => True) D18.out)
  have N18 := hidP (And.intro (N12.out.1.tr T1218.out) (And.intro (N12.out.2.1.tr T1218.out) (N12.out.2.2.tr T1218.out)))
  have NF18 := hidP (NF12.out.tr T1218.out)
  have NT18 := hidP (NT12.out.tr T1218.out)
  have s1218 := D18.out.size
  clear hb18 B17 D17 T17 U17 D18 BX12 BY12 O12 G12 N12 NF12 NT12 T1218
  have hMR := hidP (markRule_tr (Seg w6.heap.size w7.heap.size) (rsOf r) r.name r.sal a_p7 c_p7 a_e7 c_e7 a_a7 c_a7 1 w18 N18.out.1 N18.out.2.1 N18.out.2.2 HRL.out (by omega) (by have := HR1.out; omega))
  have el1 : (rsOf r).1.length = r.pats.length := by simp [rsOf]
  have el2 : (rsOf r).2.1 = r.exprs.length := rfl
  have el3 : (rsOf r).2.2.length = r.acts.length := by simp [rsOf]
  rw [el1, el2, el3] at hMR
  clear el1 el2 el3
  obtain ⟨k1, hk1⟩ : ∃ z : Int, z = 1 + (rW1 (rsOf r) : Int) := ⟨_, rfl⟩
  rw [← hk1] at hMR
  have hk1a : 0 < k1 := by omega
  have hk1b : k1 ≤ 8388609 := by have := HR1.out; omega
  clear hk1
  obtain ⟨y0, y1, y2, y3, y4⟩ := cells5P BY18.out
  go_wp2_with fail
  refine hMR.out.mono ?_
  rintro e w19 ⟨rfl, t19⟩
  have h19 : Below w.heap.size w18 w19 := t19.below B18.out.size (fun g hg => by have h2 := hg.1; omega)
  have B19 := hidP (B18.out.trans h19)
  have s1819 := h19.size
  have BX19 := hidP ((t19.block _ (lt_of_block' BX18.out) (fun hS => by have h2 := hS.1; omega)).trans BX18.out)
  have G19 := hidP (ownsKeptP G18.out t19 (fun g hg hS => by have h1 := (G18.out.lt g hg).1; have h2 := hS.2; omega))
  have O19 := hidP (ownsKeptP O18.out t19 (fun g hg hS => by have h1 := R6.out g hg; have h2 := hS.1; omega))
  have NF19 := hidP (NF18.out.tr t19)
  have NT19 := hidP (NT18.out.tr t19)
  clear y0 y1 y2 y3 y4 t19 h19 hMR B18 BX18 BY18 G18 O18 N18 NF18 NT18
  have hMF := hidP (markFactS_tr (Seg fb w9.heap.size) (some ⟨fb, 0, none⟩) (fs.map fun f => f.slots.length) fs.length k1 w19 NF19.out (by rw [List.length_map]; exact hfl) (fun n hn => by obtain ⟨f, hf, rfl⟩ := List.mem_map.1 hn; exact HFS.out f hf) hk1a (by have := HNS.out k1; omega))
  rw [List.length_map] at hMF
  obtain ⟨k2, hk2⟩ : ∃ z : Int, z = nEnd 2 3 k1 (fs.map fun f => f.slots.length) := ⟨_, rfl⟩
  have hk2a : 0 < k2 := by have := HNG.out k1; omega
  have hk2b : k2 ≤ 14680065 := by have := HNS.out k1; omega
  rw [← hk2] at hMF
  clear hk2
  go_wp2_with fail
  refine hMF.out.mono ?_
  rintro e w20 ⟨rfl, t20⟩
  have h20 : Below w.heap.size w19 w20 := t20.below B19.out.size (fun g hg => by have h2 := hg.1; omega)
  have B20 := hidP (B19.out.trans h20)
  have s1920 := h20.size
  have BX20 := hidP ((t20.block _ (lt_of_block' BX19.out) (fun hS => by have h2 := hS.1; omega)).trans BX19.out)
  have G20 := hidP (ownsKeptP G19.out t20 (fun g hg hS => by have h1 := (G19.out.lt g hg).1; have h2 := hS.2; omega))
  have O20 := hidP (ownsKeptP O19.out t20 (fun g hg hS => by have h1 := R6.out g hg; have h2 := hS.1; omega))
  have NT20 := hidP (NT19.out.tr t20)
  clear t20 h20 hMF B19 BX19 G19 O19 NF19 NT19
  have hMI := hidP (markIntS_tr (Seg w9.heap.size w10.heap.size) (some ⟨g10, 0, none⟩) tags.length tags.length k2 w20 NT20.out htl2 hk2a (by omega))
  have b27 : ¬ (k2 + (tags.length : Int)) < 0 := by omega
  go_wp2_with fail
  refine hMI.out.mono ?_
  rintro e w21 ⟨rfl, t21⟩
  have h21 : Below w.heap.size w20 w21 := t21.below B20.out.size (fun g hg => by have h2 := hg.1; omega)
  have B21 := hidP (B20.out.trans h21)
  have s2021 := h21.size
  have BX21 := hidP ((t21.block _ (lt_of_block' BX20.out) (fun hS => by have h2 := hS.1; omega)).trans BX20.out)
  have G21 := hidP (ownsKeptP G20.out t21 (fun g hg hS => by have h1 := (G20.out.lt g hg).1; have h2 := hS.2; omega))
  have O21 := hidP (ownsKeptP O20.out t21 (fun g hg hS => by have h1 := R6.out g hg; have h2 := hS.1; omega))
  clear t21 h21 hMI B20 BX20 G20 O20 NT20
  go_wp2_with fail
  refine (eqBindS_same a11 a6 c11 c6 M _ (BdsAt.owns G21.out) (BdsAt.owns O21.out) HML.out).mono ?_
  rintro e w22 ⟨rfl, hb22⟩
  have B22 := hidP (B21.out.trans (hb22.mono B21.out.size))
  have BX22 := hidP ((hb22.block _ (lt_of_block' BX21.out)).trans BX21.out)
  have G22 := hidP (own_bel G21.out hb22)
  have O22 := hidP (own_bel O21.out hb22)
  have s2122 := hb22.size
  clear hb22 B21 BX21 G21 O21 b27
  have hMB := hidP (markBindS_any a11 c11 M _ 1 w22 G22.out hml (by omega) (by omega))
  go_wp2_with fail
  refine hMB.out.mono ?_
  rintro e w23 ⟨rfl, g23, m23⟩
  have h23 : Below w10.heap.size w22 w23 := m23.below (by omega) (fun g hg => (G22.out.lt g hg).1)
  have B23 := hidP (B22.out.trans (h23.mono (by omega)))
  have BX23 := hidP ((h23.block _ (by omega)).trans BX22.out)
  have O23 := hidP (owns_of_block O22.out fun g hg => h23.block g (by have := R6.out g hg; omega))
  have s2223 := h23.size
  have G23 := hidP (show w23.ownsRow w10.heap.size 106 4 (.slice a11 (mkBs 1 M.length).length c11) (mkBs 1 M.length).length ((mkBs 1 M.length).flatMap bdCells) by rw [mkBs_len]; exact g23)
  clear g23 m23 h23 hMB B22 BX22 G22 O22
  have hHB := hidP (heldBindS_any a11 c11 M.length 1 w23 (BdsAt.owns G23.out) hml (by omega) (by omega))
  have b33 : ¬ (1 + 4 * (M.length : Int)) < 0 := by omega
  go_wp2_with fail
  refine hHB.out.mono ?_
  rintro e w24 ⟨rfl, hb24⟩
  have B24 := hidP (B23.out.trans (hb24.mono B23.out.size))
  have BX24 := hidP ((hb24.block _ (lt_of_block' BX23.out)).trans BX23.out)
  have O24 := hidP (own_bel O23.out hb24)
  obtain ⟨b0, b1, b2, b3, b4⟩ := cells5P BX24.out
  clear hb24 hHB B23 BX23 O23 G23
  go_wp2_with fail
  refine (toRule_any r a_p c_p a_e c_e a_a c_a w24 (HP.out.below B24.out) (HE.out.below B24.out) (HA.out.below B24.out) HLR.out).mono ?_
  rintro e w25 ⟨⟨a_p25, c_p25, a_e25, c_e25, a_a25, c_a25, rfl, p25, e25, a25, hc25⟩, hb25⟩
  have B25 := hidP (B24.out.trans (hb25.mono B24.out.size))
  have P25 := hidP p25
  have E25 := hidP e25
  have A25 := hidP a25
  have O25 := hidP (own_bel O24.out hb25)
  clear hb25 p25 e25 a25 b0 b1 b2 b3 b4 B24 BX24 O24 b33
  go_wp2_with fail
  refine (toFactS_any fa fc fs w25 (HF.out.below B25.out) hfl HFS.out).mono ?_
  rintro e w26 ⟨⟨rfl, gs26, ho26⟩, hb26⟩
  have B26 := hidP (B25.out.trans (hb26.mono B25.out.size))
  have P26 := hidP (P25.out.below hb26)
  have E26 := hidP (E25.out.below hb26)
  have A26 := hidP (A25.out.below hb26)
  have F26 := hidP ho26.at
  have O26 := hidP (own_bel O25.out hb26)
  clear hb26 ho26 P25 E25 A25 B25 O25
  go_wp2_with fail
  refine (toIntS_any ta tc tags w26 (HT.out.below B26.out) htl2).mono ?_
  rintro e w27 ⟨⟨g27, _, rfl, ho27⟩, hb27⟩
  have B27 := hidP (B26.out.trans (hb27.mono B26.out.size))
  have P27 := hidP (P26.out.below hb27)
  have E27 := hidP (E26.out.below hb27)
  have A27 := hidP (A26.out.below hb27)
  have F27 := hidP (F26.out.below hb27)
  have T27 := hidP ho27
  have O27 := hidP (own_bel O26.out hb27)
  clear hb27 ho27 P26 E26 A26 F26 B26 O26
  go_wp2_with fail
  refine (IB.out _ _ _ _ _ _ _ _ _ _ _ _ w27 P27.out E27.out A27.out hc25 F27.out T27.out).mono ?_
  rintro e w28 ⟨⟨a28, c28, rfl, ow28⟩, hb28⟩
  have B28 := hidP (B27.out.trans (hb28.mono B27.out.size))
  have O28 := hidP (own_bel O27.out hb28)
  have G28 := hidP ow28
  clear hb28 ow28 P27 E27 A27 F27 T27 B27 O27
  go_wp2_with fail
  refine (eqBindS_same a28 a6 c28 c6 M _ (BdsAt.owns G28.out) (BdsAt.owns O28.out) HML.out).mono ?_
  rintro e w29 ⟨rfl, hb29⟩
  have B29 := hidP (B28.out.trans (hb29.mono B28.out.size))
  clear hb29
  go_wp2_with fail
  go_ret
  exact ⟨rfl, B29.out⟩
end Go.Proofs.YtognpkdgphebeaaGreat

namespace Go.Proofs.YtognpkdgphebeaaGreat
open Go.ChangeShapes Go.WideShapes Go.ChangeAt Go.RowKit Go.Joins
open Go.ChangeMaps (open_string shut_string)

set_option maxRecDepth 100000 in
theorem bd_lifted (os : Os) (started : os.Started) (H : Type) (enc : TypeId × Value → H) :
    ReturnsInHanded {} Tryz.checked os 4 .any (Rows.fnExactBindingsSpec.pre6 enc Tryz.prog Tryz.f4 Rows.fnExactBindingsRow.domain false) (Rows.fnExactBindingsSpec.post enc Tryz.prog Tryz.f4 false true false false) := by
  refine returnsInHanded_of_change (C := Tryz.checked) ownK started (by kernel_rfl) Tryz.func4
    (ChangeSpec.witness6 (enc := enc) (C := Tryz.checked) false ⟨#[], #[.agg #[.string ⟨#[]⟩, .int .i64 0, .slice none 0 0, .slice none 0 0, .slice none 0 0], .slice none 0 0, .slice none 0 0], []⟩ 8 (by kernel_rfl) (by kernel_rfl) (by kernel_rfl) (by kernel_rfl)) ?_
  intro W base args ds gs before hval0 hW hcnd _
  have hval : ∀ (j : Nat) t v, Tryz.f4.params[j]? = some t → args[j]? = some v → Value.okWide Tryz.prog W .any base t v := hval0
  have hW' := hW
  obtain ⟨p, q, hA0, hV, rfl, hfz, hnd⟩ := hW
  have hA : DataW.TrodAll enc Tryz.prog W 0 (fun _ => true) true Tryz.f4.params.toList args.toList ds p := hA0
  rw [Tryz.params4] at hA hval
  obtain ⟨v0, vs0, d0, ds0, p0, q0, hargs, rfl, rfl, h0, r0⟩ := trodAll_cons hA
  obtain ⟨v1, vs1, d1, ds1, p1, q1, hvs, rfl, rfl, h1, r1⟩ := trodAll_cons r0
  obtain ⟨v2, vs2, d2, ds2, p2, q2, hvs2, rfl, rfl, h2, r2⟩ := trodAll_cons r1
  obtain ⟨rfl, rfl, rfl⟩ := trodAll_nil r2
  obtain rfl : args = #[v0, v1, v2] := by cases args; simp_all
  obtain ⟨rfl, rfl⟩ := trodVars_none hV
  have k0 := h0
  have lt0 : ∀ x ∈ p0, x.block < W.heap.size := by obtain ⟨m, hm⟩ := k0; exact DataW.trod_lt m _ _ _ hm
  have k1 := h1
  have lt1 : ∀ x ∈ p1, x.block < W.heap.size := by obtain ⟨m, hm⟩ := k1; exact DataW.trod_lt m _ _ _ hm
  have k2 := h2
  have lt2 : ∀ x ∈ p2, x.block < W.heap.size := by obtain ⟨m, hm⟩ := k2; exact DataW.trod_lt m _ _ _ hm
  obtain ⟨cs, rfl, hsz⟩ := okWide_struct Tryz.underlying26 (hval 0 26 v0 rfl rfl)
  obtain ⟨m0, hm0⟩ := h0
  obtain ⟨r, ⟨a_p, c_p, a_e, c_e, a_a, c_a, hcs, hp, he, ha, _⟩, ⟨⟨hle, hops⟩, hvo⟩⟩ := rd_RuleV hm0 (by simpa [Value.cells] using hsz.trans cellsLRule)
  obtain rfl : cs = #[.string r.name, .int .i64 r.sal, .slice a_p r.pats.length c_p, .slice a_e r.exprs.length c_e, .slice a_a r.acts.length c_a] := by cases cs; simpa [Value.cells] using hcs
  obtain ⟨fa, fn, fc, rfl⟩ := okWide_slice Tryz.underlying27 (hval 1 27 v1 rfl rfl)
  obtain ⟨m1, hm1⟩ := h1
  obtain ⟨fa', fc', fs, e1, hf, harg⟩ := rd_facts hm1
  simp only [Value.cells, List.cons.injEq, and_true, Value.slice.injEq] at e1
  obtain ⟨rfl, rfl, rfl⟩ := e1
  obtain ⟨ta, tn, tc, rfl⟩ := okWide_slice Tryz.underlying28 (hval 2 28 v2 rfl rfl)
  obtain ⟨m2, hm2⟩ := h2
  obtain ⟨ta', tc', tags, e2, ht, _, _, htw⟩ := rd_intsW hm2
  simp only [Value.cells, List.cons.injEq, and_true, Value.slice.injEq] at e2
  obtain ⟨rfl, rfl, rfl⟩ := e2
  clear hA0 hval0
  refine (law_bd r fs tags a_p c_p a_e c_e a_a c_a _ _ _ _ W hp he ha hle hops hvo hf harg ht htw).mono fun e W' ⟨he, bel⟩ => ?_
  subst he
  exact ⟨_, rfl, _, _, _, [], _, [], hW', trodAll_mk1 (shut_bool Tryz.underlying4 _), (trodAll_cons_mk (Below.trod laidOut (by kernel_rfl) (of_decide_eq_true (by kernel_rfl)) k0 bel lt0) (trodAll_cons_mk (Below.trod laidOut (by kernel_rfl) (of_decide_eq_true (by kernel_rfl)) k1 bel lt1) (trodAll_cons_mk (Below.trod laidOut (by kernel_rfl) (of_decide_eq_true (by kernel_rfl)) k2 bel lt2) trodAll_mk0))), rfl, bel.frame _, fun h => by cases h⟩

theorem fnExactBindings_holds : Rows.FnExactBindingsSaid :=
  OpenClaim.holds_of_wide 4 Tryz.f4 rfl rfl rfl rfl rfl rfl rfl ⟨rfl, rfl, rfl, rfl, rfl⟩ rfl rfl rfl rfl rfl (by kernel_rfl) Tryz.func4 (by kernel_rfl)
    (of_decide_eq_true (by kernel_rfl)) (by unfold Func.isWrapper; first | (rw [if_pos (by decide +kernel)]; kernel_rfl) | (rw [if_neg (by decide +kernel)]; exact ⟨rfl, rfl⟩))
    (fun os started H enc _ => bd_lifted os started H enc)
#print axioms fnExactBindings_holds
end Go.Proofs.YtognpkdgphebeaaGreat
