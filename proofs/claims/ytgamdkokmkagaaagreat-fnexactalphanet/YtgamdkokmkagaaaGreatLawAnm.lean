/-
  OUR OWN TEXT. The law FnExactAlphaNet, out of the contracts.
-/
import Derived.Test.YtgamdkokmkagaaaGreatQi
import Derived.Test.YtgamdkokmkagaaaGreatKc
import Derived.Test.YtgamdkokmkagaaaGreatKd
import Derived.Test.YtgamdkokmkagaaaGreatKf
namespace Go.Proofs.YtgamdkokmkagaaaGreat
open Go.RowKit
attribute [local go_sem ↓] Go.wp_at_zero Go.wp_at_succ

theorem addA_all {Q : Al → Prop} {A : List Al} {y : Al} (h : ∀ x ∈ A, Q x) (hy : Q y) : ∀ x ∈ addA A y, Q x := by
  intro x hx
  unfold addA at hx
  split at hx
  · exact h x hx
  · rcases List.mem_append.1 hx with hx | hx
    · exact h x hx
    · simp at hx
      rw [hx]
      exact hy
theorem rowA_all {Q : Al → Prop} : ∀ (l : List Pt) {A : List Al}, (∀ x ∈ A, Q x) → (∀ p ∈ l, Q (alphaOf p)) → ∀ x ∈ (rowA A l).1, Q x
  | [], _, h, _ => h
  | p :: r, _, h, hp => rowA_all r (addA_all h (hp p (by simp))) (fun q hq => hp q (by simp [hq]))
theorem netA_all {Q : Al → Prop} : ∀ (l : List Ru) {A : List Al}, (∀ x ∈ A, Q x) → (∀ r ∈ l, ∀ p ∈ r.pats, Q (alphaOf p)) → ∀ x ∈ (netA A l).1, Q x
  | [], _, h, _ => h
  | r :: s, _, h, hp => netA_all s (rowA_all r.pats h (hp r (by simp))) (fun q hq => hp q (by simp [hq]))
theorem netA_rows : ∀ (l : List Ru) (A : List Al), (∀ r ∈ l, r.pats.length ≤ 6) → ∀ xs ∈ (netA A l).2, xs.length ≤ 6
  | [], _, _, xs, h => by simp [netA] at h
  | r :: s, A, hp, xs, h => by
    simp only [netA, List.mem_cons] at h
    rcases h with rfl | h
    · rw [rowA_len]
      exact hp r (by simp)
    · exact netA_rows s _ (fun q hq => hp q (by simp [hq])) xs h
theorem alphaOf_le {p : Pt} (h : p.le 1048576) : (alphaOf p).le 1048576 := by
  refine ⟨?_, Nat.le_trans (alphaOf_len p) (by decide), ?_⟩
  · unfold alphaOf
    split
    · exact h.1
    · exact Nat.zero_le _
  · intro u hu
    unfold alphaOf at hu
    split at hu
    · obtain ⟨i, t, _, ht, hu⟩ := tests_from hu
      have htl := h.2.2 t (List.mem_of_getElem? ht)
      unfold testOf at hu
      split at hu
      · cases hu
      · split at hu
        · injection hu with hu
          subst hu
          exact htl.2
        · cases he : earlier p.terms i t.var with
          | none => rw [he] at hu; cases hu
          | some k =>
            rw [he] at hu
            injection hu with hu
            subst hu
            exact Nat.zero_le _
    · simp at hu
theorem netOf_small {rs : List Ru} (hle : ListLe Ru.le 1048576 rs) : (netOf rs).le 1048576 ∧ (netOf rs).als.length ≤ 96 ∧ (∀ x ∈ (netOf rs).als, x.tests.length ≤ 6) ∧ (netOf rs).of.length ≤ 16 ∧ ∀ xs ∈ (netOf rs).of, xs.length ≤ 6 := by
  unfold netOf
  split
  · rename_i hck
    obtain ⟨h16, _⟩ := chk_each hck
    have hp6 : ∀ r ∈ rs, r.pats.length ≤ 6 := fun r hr => (chk_small hck hr).1
    have h1 := netA_grow rs [] hp6
    have h2 := netA_len rs []
    have h3 : ∀ x ∈ (netA [] rs).1, x.le 1048576 := netA_all rs (fun x hx => by simp at hx) (fun r hr p hp => alphaOf_le ((hle.2 r hr).2.1.2 p hp))
    have h4 : ∀ x ∈ (netA [] rs).1, x.tests.length ≤ 6 := netA_all (Q := fun x => x.tests.length ≤ 6) rs (fun x hx => by simp at hx) (fun r _ p _ => alphaOf_len p)
    have h5 := netA_rows rs [] hp6
    simp at h1
    refine ⟨⟨⟨by show (netA [] rs).1.length ≤ _; omega, h3⟩, ⟨by show (netA [] rs).2.length ≤ _; omega, fun xs hxs => Nat.le_trans (h5 xs hxs) (by decide)⟩⟩, by show (netA [] rs).1.length ≤ _; omega, h4, by show (netA [] rs).2.length ≤ _; omega, h5⟩
  · exact ⟨⟨⟨by simp, fun x hx => by simp at hx⟩, ⟨by simp, fun x hx => by simp at hx⟩⟩, by simp, fun x hx => by simp at hx, by simp, fun x hx => by simp at hx⟩
theorem iEnd_le : ∀ (l : List (List Int)) (k : Int), (∀ xs ∈ l, xs.length ≤ 6) → iEnd k l ≤ k + 6 * (l.length : Int)
  | [], k, _ => by simp [iEnd]
  | xs :: r, k, h => by
    have h1 := iEnd_le r (k + (xs.length : Int)) (fun y hy => h y (by simp [hy]))
    have h2 := h xs (by simp)
    simp only [iEnd, List.length_cons]
    omega
theorem AO.trS {w w' : World} {base : Nat} {a : Option Addr} {c : Nat} {L : List AlX} {S : Nat → Prop} (h : AO w base a c L) (ht : Tr S w w') (hs : ∀ g, base ≤ g → ¬ S g) : AO w' base a c L :=
  ⟨owns_of_block h.1 fun g hg => ht.block g (h.1.lt g hg).2 (hs g (h.1.lt g hg).1), fun x hx => ⟨(h.2 x hx).1, owns_of_block (h.2 x hx).2 fun g hg => ht.block g ((h.2 x hx).2.lt g hg).2 (hs g ((h.2 x hx).2.lt g hg).1)⟩⟩
theorem OLL.trN {w w' : World} {base : Nat} {v : Value} {n : Nat} {xss : List (List Int)} {vs : List Value} {S : Nat → Prop} (h : OLL w base v n xss vs) (ht : Tr S w w') (hs : ∀ g, base ≤ g → ¬ S g) : OLL w' base v n xss vs :=
  h.kept fun g hg => ht.block g (h.range hg).2 (hs g (h.range hg).1)
theorem NB.trS {w w' : World} {b : Nat} {v0 v1 : Value} {S : Nat → Prop} (h : NB w b v0 v1) (ht : Tr S w w') (hs : ¬ S b) : NB w' b v0 v1 := (ht.block b (lt_of_block' h) hs).trans h
set_option maxRecDepth 100000 in
set_option maxHeartbeats 6400000 in
theorem law_an (rs : List Ru) (a : Option Addr) (c : Nat) (w : World) (hv : RusAt none w a rs) (hs0 : ListLe Ru.le maxLen rs) (ho : ∀ x ∈ rs, OpsOk x.exprs) (hvo : ∀ r ∈ rs, ∀ p ∈ r.pats, ∀ t ∈ p.terms, VOk t.val) :
    Calls Tryz.prog 3 #[.slice a rs.length c] w fun e w' => e = .returned (.bool true) ∧ Below w.heap.size w w' := by
  have HO := hidN1 ho
  have HVO := hidN1 hvo
  clear ho hvo
  go_enter Tryz.func3, Tryz.ntmps3
  go_wp2_with (go_at_call 4; refine (szRuleS_any a c rs 1048576 _ hv hs0 (by omega) (by omega)).mono ?_; rintro e w0 ⟨⟨r1, rfl, hr1⟩, hb0⟩)
  · go_ret
    exact ⟨rfl, hb0⟩
  · have hsz : szL Ru.sz rs ≤ 1048576 := by rcases hr1 with h | ⟨_, h⟩ <;> omega
    have hle : ListLe Ru.le 1048576 rs := listLe Ru.le_sz hsz
    have hrw : rsW (rs.map rsOf) ≤ 8388608 := by
      have := rsW_sz rs
      omega
    have HV := hidN1 hv
    have TR := hidN1 (fun w' (h : Below w.heap.size w w') => toRuleS_any a c rs w' (HV.out.below h) hle)
    have SM := hidN1 (fun w' g B (h : RusAt (some B) w' (some ⟨g, 0, none⟩) rs) => sAlphaNet_any rs (some ⟨g, 0, none⟩) rs.length w' h (Nat.le_refl _) hle HO.out)
    have IM := hidN1 (fun w' g B (h : RusAt (some B) w' (some ⟨g, 0, none⟩) rs) => iAlphaNet_any rs (some ⟨g, 0, none⟩) rs.length w' h (Nat.le_refl _) hle HO.out HVO.out)
    have NSM := hidN1 (netOf_small hle)
    unfold SNet at SM
    unfold INet at IM
    generalize netOf rs = NT at SM IM NSM
    clear hr1 hs0 hv hsz
    go_wp2_with fail
    refine (TR.out w0 hb0).mono ?_
    rintro e w1 ⟨⟨g1, hg1, rfl, i1⟩, hb1⟩
    have hB1 : Below w.heap.size w w1 := hb0.trans (hb1.mono hb0.size)
    go_wp2_with fail
    refine (SM.out w1 g1 _ i1).mono ?_
    rintro e w2' ⟨⟨aa, ac, oa, oc, rfl, sa, si⟩, hb2⟩
    have hB2' : Below w.heap.size w w2' := hB1.trans (hb2.mono hB1.size)
    have HB2' := hidN1 hB2'
    have SA' := hidN1 sa
    have SI' := hidN1 si
    clear sa si i1 SM hb2 hB2' hB1 hb1 hb0
    go_upto_region 6 with fail
    refine lift_alloc ?_
    intro w2 hW2 hq2
    have hB2 : Below w.heap.size w w2 := HB2'.out.trans (hW2.mono HB2'.out.size)
    have SA := hidN1 (SA'.out.below hW2)
    have SI := hidN1 (SI'.out.below hW2)
    have N4 := hidN1 (show NB w2 w2'.heap.size (.slice aa NT.als.length ac) (.slice oa NT.of.length oc) from hq2)
    have hnl := N4.out.facts.2.2
    clear hW2 hq2 SA' SI'
    go_wp2_with fail
    refine (TR.out w2 hB2).mono ?_
    rintro e w3 ⟨⟨g3, hg3, rfl, i3⟩, hb3⟩
    have D3 := hidN1 hb3
    have F3 := hidN1 (RusAt.nest i3 (Nat.le_refl _))
    have I3 := hidN1 i3
    have s23 := hb3.size
    clear i3 hb3
    go_wp2_with fail
    refine (IM.out w3 g3 _ I3.out).mono ?_
    rintro e w4' ⟨⟨ga, gc, pa, pc, L, vs, rfl, hLA, gao, gpw, gol⟩, hb4⟩
    have HLA := hidN1 hLA
    have hLl : L.length = NT.als.length := by have := congrArg List.length hLA; simpa using this
    have HLL := hidN1 hLl
    have A4' := hidN1 gao
    have PW := hidN1 gpw
    have O4' := hidN1 gol
    have D4' := hidN1 (D3.out.trans (hb4.mono s23))
    have I4' := hidN1 (I3.out.below hb4)
    have F4' := hidN1 (F3.out.tr (Tr.of_below (S := fun _ => True) hb4))
    have s34 := hb4.size
    clear hLA hLl gao gpw gol hb4 D3 F3 I3
    go_upto_region 8 with fail
    refine lift_alloc ?_
    intro w4 hW4 hq4
    have A4 := hidN1 (A4'.out.bel hW4)
    have O4 := hidN1 (O4'.out.below hW4)
    have D4 := hidN1 (D4'.out.trans (hW4.mono D4'.out.size))
    have I4 := hidN1 (I4'.out.below hW4)
    have F4 := hidN1 (F4'.out.tr (Tr.of_below (S := fun _ => True) hW4))
    have M4 := hidN1 (show NB w4 w4'.heap.size (.slice ga NT.als.length gc) (.slice pa NT.of.length pc) from hq4)
    have s44 := hW4.size
    have hml := M4.out.facts.2.2
    clear hW4 hq4 A4' O4' D4' I4' F4'
    obtain ⟨⟨n0, n1⟩, _, _⟩ := (N4.out.bel D4.out).facts
    obtain ⟨⟨m0, m1⟩, _, _⟩ := M4.out.facts
    have GA := hidN1 (fun w' (h : AO w' w3.heap.size ga gc L) => (show AlsAt none w' ga NT.als by rw [← HLA.out]; exact h.at))
    have EQ := hidN1 (fun w' (h1 : AO w' w3.heap.size ga gc L) (h2 : OLL w' w3.heap.size (.slice pa NT.of.length pc) NT.of.length NT.of vs) (h3 : Below w2.heap.size w2 w') => eqNet_same NT ga aa gc ac pa oa pc oc w' (GA.out w' h1) (SA.out.below h3) h2.ils (SI.out.below h3) NSM.out.1)
    go_wp2_with fail
    refine (EQ.out w4 A4.out O4.out D4.out).mono ?_
    rintro e w5 ⟨rfl, hb5⟩
    have A5 := hidN1 (A4.out.bel hb5)
    have O5 := hidN1 (O4.out.below hb5)
    have D5 := hidN1 (D4.out.trans (hb5.mono D4.out.size))
    have hB5 : Below w.heap.size w w5 := hB2.trans (D5.out.mono hB2.size)
    have s45 := hb5.size
    clear n0 n1 m0 m1
    go_wp2_with fail
    refine (TR.out w5 hB5).mono ?_
    rintro e w6 ⟨⟨g6, hg6, rfl, i6⟩, hb6⟩
    have s56 := hb6.size
    go_wp2_with fail
    refine (eqRuleS_same (some ⟨g3, 0, none⟩) (some ⟨g6, 0, none⟩) rs.length rs.length rs w6 ((I4.out.below hb5).below hb6) i6 hle).mono ?_
    rintro e w7 ⟨rfl, hb7⟩
    have s67 := hb7.size
    have A7 := hidN1 ((A5.out.bel hb6).bel hb7)
    have O7 := hidN1 ((O5.out.below hb6).below hb7)
    have D7 := hidN1 ((D5.out.trans (hb6.mono D5.out.size)).trans (hb7.mono (Nat.le_trans D5.out.size s56)))
    have M7 := hidN1 (((M4.out.bel hb5).bel hb6).bel hb7)
    have F7 := hidN1 (((F4.out.tr (Tr.of_below (S := fun _ => True) hb5)).tr (Tr.of_below (S := fun _ => True) hb6)).tr (Tr.of_below (S := fun _ => True) hb7))
    clear A4 O4 D4 A5 O5 D5 M4 F4 i6 I4 hb5 hb6 hb7
    have hMX := hidN1 (markRuleS_tr (Seg w2.heap.size w3.heap.size) (some ⟨g3, 0, none⟩) (rs.map rsOf) rs.length 1 w7 F7.out (by rw [List.length_map]; exact hle.1) (fun x hx => rs_le hle hx) (by omega) (by omega))
    rw [List.length_map] at hMX
    generalize rsW (rs.map rsOf) = RW at hMX hrw
    have b1 : ¬ (1 + (RW : Int)) < 0 := by omega
    go_wp2_with fail
    refine hMX.out.mono ?_
    rintro e w8 ⟨rfl, t8⟩
    have A8 := hidN1 (A7.out.trS t8 (fun g hg hS => by have h2 := hS.2; omega))
    have O8 := hidN1 (O7.out.trN t8 (fun g hg hS => by have h2 := hS.2; omega))
    have M8 := hidN1 (M7.out.trS t8 (fun hS => by have h2 := hS.2; omega))
    have h8 : Below w2.heap.size w7 w8 := t8.below (by omega) (fun g hg => hg.1)
    have D8 := hidN1 (D7.out.trans h8)
    have s78 := h8.size
    obtain ⟨⟨n0, n1⟩, _, _⟩ := (N4.out.bel D8.out).facts
    obtain ⟨⟨m0, m1⟩, _, _⟩ := M8.out.facts
    clear A7 O7 M7 D7 hMX F7 t8 h8
    go_wp2_with fail
    refine (EQ.out w8 A8.out O8.out D8.out).mono ?_
    rintro e w9 ⟨rfl, hb9⟩
    have A9 := hidN1 (A8.out.bel hb9)
    have O9 := hidN1 (O8.out.below hb9)
    have M9 := hidN1 (M8.out.bel hb9)
    have D9 := hidN1 (D8.out.trans (hb9.mono D8.out.size))
    have s89 := hb9.size
    clear A8 O8 M8 D8 b1 n0 n1 m0 m1 hb9
    obtain ⟨⟨m0, m1⟩, _, _⟩ := M9.out.facts
    obtain ⟨q1, q2, q3, q4, q5⟩ := NSM.out
    have hT6 : ∀ x ∈ L, x.1.tests.length ≤ 6 := fun x hx => q3 x.1 (by rw [← HLA.out]; exact List.mem_map.2 ⟨x, hx, rfl⟩)
    have hE1 := alE_le L 1 hT6
    have hE2 := iEnd_le NT.of (alE 1 L) q5
    have hE3 := alE_ge L 1
    have hE4 := iEnd_ge NT.of (alE 1 L)
    have hL96 : L.length ≤ 96 := by rw [HLL.out]; exact q2
    have hMN := hidN1 (markNet_own ga pa gc pc L NT.of vs w3.heap.size w9 A9.out PW.out O9.out (by omega) hT6 (by omega) (fun xs hxs => Nat.le_trans (q5 xs hxs) (by decide)) (by omega) (by omega) (by omega))
    have hHN := hidN1 (fun w' (h1 : AO w' w3.heap.size ga gc (mkAXs 1 L)) (h2 : OLL w' w3.heap.size (.slice pa NT.of.length pc) NT.of.length (mkIss (alE 1 L) NT.of) vs) => heldNet_any ga pa gc pc L NT.of w' h1.at (show IlsAt none w' pa (mkIss (alE 1 L) NT.of) from OLL.ils (by rw [← mkIss_len NT.of (alE 1 L)] at h2; exact h2)) (by omega) hT6 (by omega) (fun xs hxs => Nat.le_trans (q5 xs hxs) (by decide)) (by omega) (by omega))
    rw [HLL.out] at hMN hHN
    generalize iEnd (alE 1 L) NT.of = EN at hMN hHN hE2 hE4
    have b4 : ¬ EN < 0 := by omega
    clear q1 q2 q3 q4 q5 hE1 hE2 hE4
    go_wp2_with fail
    refine hMN.out.mono ?_
    rintro e w10 ⟨rfl, ⟨a10, o10⟩, h10, hnb10⟩
    have M10 := hidN1 (hnb10 _ _ _ M9.out)
    have D10 := hidN1 (D9.out.trans (h10.mono s23))
    have A10 := hidN1 a10
    have O10 := hidN1 o10
    obtain ⟨⟨m0', m1'⟩, _, _⟩ := M10.out.facts
    clear a10 o10 hnb10 h10 hMN A9 O9 M9 D9 m0 m1
    go_wp2_with fail
    refine (hHN.out w10 A10.out O10.out).mono ?_
    rintro e w11 ⟨rfl, hb11⟩
    have D11 := hidN1 (D10.out.trans (hb11.mono D10.out.size))
    have hB11 : Below w.heap.size w w11 := hB2.trans (D11.out.mono hB2.size)
    clear hHN A10 O10 M10 D10 m0' m1' hb11
    go_wp2_with fail
    refine (TR.out w11 hB11).mono ?_
    rintro e w12 ⟨⟨g12, hg12, rfl, i12⟩, hb12⟩
    have D12 := hidN1 (D11.out.trans (hb12.mono D11.out.size))
    have I12 := hidN1 i12
    clear i12 hb12
    go_wp2_with fail
    refine (IM.out w12 g12 _ I12.out).mono ?_
    rintro e w13' ⟨⟨ha, hc', qa, qc, L13, vs13, rfl, hLA13, hao, _, hol⟩, hb13⟩
    have D13' := hidN1 (D12.out.trans (hb13.mono D12.out.size))
    have A13' := hidN1 (show AlsAt none w13' ha NT.als by rw [← hLA13]; exact hao.at)
    have O13' := hidN1 hol.ils
    clear hLA13 hao hol hb13
    go_upto_region 25 with fail
    refine lift_alloc ?_
    intro w13 hW13 hq13
    have D13 := hidN1 (D13'.out.trans (hW13.mono D13'.out.size))
    have A13 := hidN1 (A13'.out.below hW13)
    have O13 := hidN1 (O13'.out.below hW13)
    have M13 := hidN1 (show NB w13 w13'.heap.size (.slice ha NT.als.length hc') (.slice qa NT.of.length qc) from hq13)
    obtain ⟨⟨n0, n1⟩, _, _⟩ := (N4.out.bel D13.out).facts
    obtain ⟨⟨m0, m1⟩, _, _⟩ := M13.out.facts
    clear hW13 hq13
    go_wp2_with fail
    refine (eqNet_same NT ha aa hc' ac qa oa qc oc w13 A13.out (SA.out.below D13.out) O13.out (SI.out.below D13.out) NSM.out.1).mono ?_
    rintro e w14 ⟨rfl, hb14⟩
    have hB13 : Below w.heap.size w w13 := hB2.trans (D13.out.mono hB2.size)
    have hB14 : Below w.heap.size w w14 := hB13.trans (hb14.mono hB13.size)
    go_wp2_with fail
    go_ret
    exact ⟨rfl, hB14⟩
end Go.Proofs.YtgamdkokmkagaaaGreat
