/-
  OUR OWN TEXT. The law FnExactAlphaMems, out of the contracts.
-/
import Derived.Test.YtofmgaebgojonaaGTr
import Derived.Test.YtofmgaebgojonaaGNm
import Derived.Test.YtofmgaebgojonaaGAm
import Derived.Test.YtofmgaebgojonaaSv
namespace Go.Proofs.Ytofmgaebgojonaa
open Go.RowKit
attribute [local go_sem ↓] Go.wp_at_zero Go.wp_at_succ

theorem OLL.mks {S : Nat → Prop} {w w' : World} {base : Nat} {v : Value} {n : Nat} {xss : List (List Int)} {vs : List Value} (h : OLL w base v n xss vs) (ht : MkS S w w') (hne : ∀ g, InLL v vs g → ¬ S g) : OLL w' base v n xss vs :=
  h.kept fun g hg => ht.block g (h.range hg).2 (hne g hg)
theorem iEnd_le {N : Nat} : ∀ (l : List (List Int)) (k : Int), (∀ xs ∈ l, xs.length ≤ N) → iEnd k l ≤ k + (N : Int) * (l.length : Int)
  | [], k, _ => by simp [iEnd]
  | x :: r, k, h => by
    have h1 := iEnd_le r (k + (x.length : Int)) (fun xs hx => h xs (List.mem_cons_of_mem _ hx))
    have h2 := h x (by simp)
    show iEnd (k + (x.length : Int)) r ≤ _
    have h3 : (N : Int) * (((x :: r).length : Nat) : Int) = (N : Int) * (r.length : Int) + (N : Int) := by
      rw [List.length_cons, Int.natCast_add, Int.mul_add]
      simp
    rw [h3]
    omega
theorem mems_le (xs : List Al) (fs : List F) : (mems xs fs).length ≤ xs.length ∧ (∀ ys ∈ mems xs fs, ys.length ≤ 40) := by
  unfold mems
  split
  · rename_i hg
    have h40 : fs.length ≤ 40 := by
      simp only [gFacts, Bool.and_eq_true, decide_eq_true_eq] at hg
      exact hg.1
    refine ⟨by simp, fun ys hy => ?_⟩
    obtain ⟨x, _, rfl⟩ := List.mem_map.1 hy
    have := memOf_len x fs
    omega
  · exact ⟨Nat.zero_le _, fun ys hy => by simp at hy⟩

theorem mem_le_sum (l : List Nat) (n : Nat) (h : n ∈ l) : n ≤ l.sum := by
  have := le_sumG (fun x : Nat => x) l n h
  simpa using this
theorem OLL.trS {S : Nat → Prop} {w w' : World} {base : Nat} {v : Value} {n : Nat} {xss : List (List Int)} {vs : List Value} (h : OLL w base v n xss vs) (ht : Tr S w w') (hs : ∀ g, InLL v vs g → ¬ S g) : OLL w' base v n xss vs :=
  h.kept fun g hg => ht.block g (h.range hg).2 (hs g hg)

set_option maxHeartbeats 3200000 in
theorem law_am (x : Nt) (a_als : Option Addr) (c_als : Nat) (a_of : Option Addr) (c_of : Nat) (a : Option Addr) (c : Nat) (fs : List F) (w : World) (h_als : AlsAt none w a_als x.als) (h_of : IlsAt none w a_of x.of) (hv : FactsAt w a fs) (hx : x.le maxLen) (ha : Arg fs) :
    Calls Try.prog 10 #[.agg #[.slice a_als x.als.length c_als, .slice a_of x.of.length c_of], .slice a fs.length c] w fun e w' => e = .returned (.bool true) ∧ Below w.heap.size w w' := by
  have B0 : ∀ o, Below w.heap.size w (w.alloc o) := fun o => (Below.refl _ _).alloc (Nat.le_refl _) _
  obtain ⟨hl0, hs0⟩ := ha
  have hs1 : ∀ f ∈ fs, f.cls.size ≤ maxLen ∧ f.slots.length ≤ maxLen ∧ ∀ v ∈ f.slots, v.sym.size ≤ maxLen := fun f hf => ⟨(hs0 f hf).1, (hs0 f hf).2.1, fun v hvv => ((hs0 f hf).2.2.2 v hvv).2.2⟩
  go_enter Try.func10, Try.ntmps10
  go_wp2_with (go_at_call 52; refine (szNet_any x a_als c_als a_of c_of 1048576 _ (h_als.below (B0 _)) (h_of.below (B0 _)) hx (by omega) (by omega)).mono ?_; rintro e w1 ⟨⟨r1, rfl, hr1⟩, hb1⟩; have n0 : w1.cell? ⟨w.heap.size, 0, none⟩ = some (.slice a_als x.als.length c_als) := cell_below hb1 (by simp [go_sem]); have n1 : w1.cell? ⟨w.heap.size, 1, none⟩ = some (.slice a_of x.of.length c_of) := cell_below hb1 (by simp [go_sem]); have hB1 : Below w.heap.size w w1 := (B0 _).trans (hb1.mono (by simp)))
  · go_ret
    exact ⟨rfl, hB1⟩
  · refine (szFactS_any a c fs r1 _ (hv.below hB1) hl0 hs1 (by omega) (by rcases hr1 with h | ⟨_, h⟩ <;> omega)).mono ?_
    rintro e w2 ⟨⟨r2, rfl, hr2⟩, hb2⟩
    have hB2 : Below w.heap.size w w2 := hB1.trans (hb2.mono hB1.size)
    have m0 := cell_below hb2 n0
    have m1 := cell_below hb2 n1
    clear n0 n1
    go_wp2_with fail
    · go_ret
      exact ⟨rfl, hB2⟩
    · have hxz : x.sz + szFs fs ≤ 1048576 := by
        rcases hr1 with h | ⟨_, h⟩ <;> rcases hr2 with h' | ⟨_, h'⟩ <;> omega
      have hle : x.le 1048576 := Nt.le_sz _ _ (by omega)
      have hfz : szFs fs ≤ 1048576 := by omega
      have hfl : fs.length ≤ 1048576 := (szFs_le hfz).1
      have hsl : ∀ f ∈ fs, f.slots.length ≤ 1048576 := fun f hf => ((szFs_le hfz).2 f hf).2.1
      have hsd := sized_of hfz
      have hal : x.als.length ≤ 1048576 := hle.1.1
      have hat : ∀ y ∈ x.als, y.tests.length ≤ 1048576 := fun y hy => (hle.1.2 y hy).2.1
      obtain ⟨hml, hm40⟩ := mems_le x.als fs
      obtain ⟨M, hM⟩ : ∃ M, M = mems x.als fs := ⟨_, rfl⟩
      have hMle : ListLe Il.le 1048576 M := by
        rw [hM]
        exact ⟨by omega, fun ys hy => by have := hm40 ys hy; exact (show ys.length ≤ 1048576 by omega)⟩
      have hMend : iEnd 1 M ≤ 100000000 := by
        have h := iEnd_le M 1 (N := 40) (by rw [hM]; exact hm40)
        rw [← hM] at hml
        omega
      have hMl : M.length ≤ 1048576 := hMle.1
      have hMs : ∀ ys ∈ M, ys.length ≤ 1048576 := fun ys hy => hMle.2 ys hy
      have hsum1 : (x.als.map fun y => y.tests.length).length + (x.als.map fun y => y.tests.length).sum ≤ 1048576 := by
        have h1 := sum_le_map (f := fun y : Al => y.tests.length) (g := Al.sz) (fun y => by unfold Al.sz szL; omega) x.als
        have h2 : x.sz = szL Al.sz x.als + szL Il.sz x.of := rfl
        unfold szL at h2
        rw [List.length_map]
        omega
      have hsum2 : (x.of.map List.length).length + (x.of.map List.length).sum ≤ 1048576 := by
        have h2 : x.sz = szL Al.sz x.als + szL Il.sz x.of := rfl
        have h3 : (x.of.map List.length).sum = (x.of.map Il.sz).sum := rfl
        unfold szL at h2
        rw [List.length_map]
        omega
      have hsum3 : (fs.map fun f => f.slots.length).length + (fs.map fun f => f.slots.length).sum ≤ 1048576 := by
        have h1 := sum_le_map (f := fun f : F => f.slots.length) (g := szF) (fun f => by unfold szF szVs; omega) fs
        unfold szFs at hfz
        rw [List.length_map]
        omega
      have hGs := hidT (fun w' (b : Option Addr) (h : FactsAt w' b fs) (u : World) (hu : Below w'.heap.size w' u) => (l1GoodFacts_any b fs.length fs u (h.below hu) hfl hsd))
      have hGi := hidT (fun w' (b : Option Addr) (h : FactsAt w' b fs) (u : World) (hu : Below w'.heap.size w' u) => (goodFacts_any b fs.length fs u (h.below hu) hfl hsd))
      have hSM := hidT (fun w' (B : Nat) (b : Option Addr) (cb : Nat) (b2 : Option Addr) (cb2 : Nat) (b3 : Option Addr) (h1 : AlsAt (some B) w' b x.als) (h3 : FactsAt w' b3 fs) => sMems_any x.als b cb b2 x.of.length cb2 b3 fs.length fs w' h1 h3 hat hal hfl (fun u hu => hGs.out w' b3 h3 u hu))
      have hIM := hidT (fun w' (B : Nat) (b : Option Addr) (cb : Nat) (b2 : Option Addr) (cb2 : Nat) (b3 : Option Addr) (h1 : AlsAt (some B) w' b x.als) (h3 : FactsAt w' b3 fs) => iMems_any x.als b cb b2 x.of.length cb2 b3 fs.length fs w' h1 h3 hat hal hfl (fun u hu => hGi.out w' b3 h3 u hu))
      rw [← hM] at hSM hIM
      clear hGs hGi hr1 hr2 hs0 hs1 hl0 hx hxz hM hml hm40 hb1 hb2
      refine (toNet_any x a_als c_als a_of c_of _ (h_als.below hB2) (h_of.below hB2) hle).mono ?_
      rintro e w3 ⟨⟨a3, c3, a3', c3', rfl, al3, il3⟩, hb3⟩
      have hB3 : Below w.heap.size w w3 := hB2.trans (hb3.mono hB2.size)
      go_wp2_with fail
      refine (toFactS_any a c fs _ (hv.below hB3) hfl hsl).mono ?_
      rintro e w4 ⟨⟨rfl, gs4, of4⟩, hb4⟩
      have hB4 : Below w.heap.size w w4 := hB3.trans (hb4.mono hB3.size)
      go_wp2_with fail
      refine (hSM.out _ _ _ _ _ _ _ (al3.below hb4) of4.at).mono ?_
      rintro e w5 ⟨⟨a5, c5, vs5, rfl, ol5⟩, hb5⟩
      have hB5 : Below w.heap.size w w5 := hB4.trans (hb5.mono hB4.size)
      have p0 := cell_below hb5 (cell_below hb4 (cell_below hb3 m0))
      have p1 := cell_below hb5 (cell_below hb4 (cell_below hb3 m1))
      have s45 := hb5.size
      have OL5 := hidT ol5
      have R5 := hidT (fun g (hg : InLL (.slice a5 M.length c5) vs5 g) => (ol5.range hg).2)
      clear m0 m1 hb3 hb4 hb5 al3 il3 of4 ol5 hSM
      go_wp2_with fail
      refine (toNet_any x a_als c_als a_of c_of _ (h_als.below hB5) (h_of.below hB5) hle).mono ?_
      rintro e w6 ⟨⟨a6, c6, a6', c6', rfl, al6, il6⟩, hb6⟩
      have hB6 : Below w.heap.size w w6 := hB5.trans (hb6.mono hB5.size)
      have N6 := hidT (AlsAt.nest al6 (Nat.le_refl _))
      have I6 := hidT (IlsAt.nest il6 (Nat.le_refl _))
      have s56 := hb6.size
      have A6 : ∀ o, Below w6.heap.size w6 (w6.alloc o) := fun o => (Below.refl _ _).alloc (Nat.le_refl _) _
      go_wp2_with fail
      refine (toFactS_any a c fs _ (hv.below (hB6.alloc hB6.size _)) hfl hsl).mono ?_
      rintro e w7 ⟨⟨rfl, gs7, of7⟩, hb7⟩
      have hb67 : Below w6.heap.size w6 w7 := (A6 _).trans (hb7.mono (by simp))
      have hB7 : Below w.heap.size w w7 := hB6.trans (hb67.mono hB6.size)
      have of7' : OwnFs w7 (w6.heap.size + 1) fs.length fs gs7 := by simpa using of7
      have F7 := hidT (OwnFs.nest of7' (Nat.le_refl _) (Nat.le_refl _))
      have s67 : w6.heap.size + 1 ≤ w7.heap.size := by have := hb7.size; simpa using this
      have x70 : w7.cell? ⟨w6.heap.size, 0, none⟩ = some (.slice a6 x.als.length c6) := cell_below hb7 (by simp [go_sem])
      have x71 : w7.cell? ⟨w6.heap.size, 1, none⟩ = some (.slice a6' x.of.length c6') := cell_below hb7 (by simp [go_sem])
      have q0 := cell_below hb67 (cell_below hb6 p0)
      have q1 := cell_below hb67 (cell_below hb6 p1)
      have OL7 := hidT ((OL5.out.below hb6).below hb67)
      have al7 := al6.below hb67
      have il7 := il6.below hb67
      clear hb7 p0 p1
      go_wp2_with fail
      refine (hIM.out _ _ _ _ _ _ _ al7 of7'.at).mono ?_
      rintro e w8 ⟨⟨a8, c8, vs8, rfl, ol8⟩, hb8⟩
      have hB8 : Below w.heap.size w w8 := hB7.trans (hb8.mono hB7.size)
      have s78 := hb8.size
      have G8 := hidT ol8
      have OL8 := hidT (OL7.out.below hb8)
      clear ol8 OL7
      go_wp2_with fail
      refine (eqIntSS_same a8 a5 c8 c5 M _ G8.out.ils OL8.out.ils hMle).mono ?_
      rintro e w9 ⟨rfl, hb9⟩
      have hB9 : Below w.heap.size w w9 := hB8.trans (hb9.mono hB8.size)
      have s89 := hb9.size
      have G9 := hidT (G8.out.below hb9)
      have OL9 := hidT (OL8.out.below hb9)
      have y0 := cell_below hb9 (cell_below hb8 x70)
      have y1 := cell_below hb9 (cell_below hb8 x71)
      have z0 := cell_below hb9 (cell_below hb8 q0)
      have z1 := cell_below hb9 (cell_below hb8 q1)
      have al9 := hidT ((al7.below hb8).below hb9)
      have il9 := hidT ((il7.below hb8).below hb9)
      have of9 := hidT ((of7'.at.below hb8).below hb9)
      have N9 := hidT (((N6.out.tr (Tr.of_below (S := fun _ => True) hb67)).tr (Tr.of_below (S := fun _ => True) hb8)).tr (Tr.of_below (S := fun _ => True) hb9))
      have I9 := hidT (((I6.out.tr (Tr.of_below (S := fun _ => True) hb67)).tr (Tr.of_below (S := fun _ => True) hb8)).tr (Tr.of_below (S := fun _ => True) hb9))
      have F9 := hidT ((F7.out.tr (Tr.of_below (S := fun _ => True) hb8)).tr (Tr.of_below (S := fun _ => True) hb9))
      clear x70 x71 q0 q1 hb8 hb9 hb67 hb6 al6 il6 al7 il7 of7 of7' G8 OL8 N6 I6 F7 OL5
      go_wp2_with fail
      have hB9d : Below w.heap.size w w9.drew := hB9.drew
      have hD9 : Below w9.heap.size w9 w9.drew := (Below.refl _ _).drew
      first
      | (go_region_held3 (fun w' => w'.cell? ⟨w6.heap.size, 0, none⟩ = some (.slice a6 x.als.length c6) ∧ w'.cell? ⟨w6.heap.size, 1, none⟩ = some (.slice a6' x.of.length c6') ∧ w'.cell? ⟨w.heap.size, 0, none⟩ = some (.slice a_als x.als.length c_als) ∧ w'.cell? ⟨w.heap.size, 1, none⟩ = some (.slice a_of x.of.length c_of)) ((go_split_ands; refine ⟨?_, ?_, ?_, ?_⟩ <;> first | (simp [*]; done) | exact cell_below hb10 (by assumption) | exact cell_below hb11 (by assumption)))
          (first
           | (go_at_call 55; refine (toNet_any x a_als c_als a_of c_of _ (h_als.below hB9d) (h_of.below hB9d) hle).mono ?_; rintro e w10 ⟨⟨a10, c10, a10', c10', rfl, al10, il10⟩, hb10⟩)
           | (go_at_call 59; refine (eqNet_same x a6 a10 c6 c10 a6' a10' c6' c10' _ ((al9.out.below hD9).below hb10) al10 ((il9.out.below hD9).below hb10) il10 hle).mono ?_; rintro e w11 ⟨rfl, hb11⟩)
           | fail))
      | fail
      rename_i hHld
      obtain ⟨u0, u1, t0, t1⟩ := hHld
      have hb911 : Below w9.heap.size w9 w11 := (hD9.trans (hb10.mono (by simp))).trans (hb11.mono (by have := hb10.size; simp at this ⊢; omega))
      have hB11 : Below w.heap.size w w11 := hB9.trans (hb911.mono hB9.size)
      have s911 := hb911.size
      clear y0 y1 z0 z1 hb10 hb11 al10 il10 hD9 hB9d
      go_wp2_with fail
      refine (toFactS_any a c fs _ (hv.below hB11) hfl hsl).mono ?_
      rintro e w12 ⟨⟨rfl, gs12, of12⟩, hb12⟩
      have hB12 : Below w.heap.size w w12 := hB11.trans (hb12.mono hB11.size)
      go_wp2_with fail
      refine (eqFactS_same (some ⟨w6.heap.size + 1, 0, none⟩) (some ⟨w11.heap.size, 0, none⟩) fs.length fs.length fs _ ((of9.out.below hb911).below hb12) of12.at hfl hsl).mono ?_
      rintro e w13 ⟨rfl, hb13⟩
      have hB13 : Below w.heap.size w w13 := hB12.trans (hb13.mono hB12.size)
      have hb913 : Below w9.heap.size w9 w13 := (hb911.trans (hb12.mono s911)).trans (hb13.mono (by have := hb12.size; omega))
      have s913 := hb913.size
      have v0 := cell_below hb13 (cell_below hb12 u0)
      have v1 := cell_below hb13 (cell_below hb12 u1)
      have q0 := cell_below hb13 (cell_below hb12 t0)
      have q1 := cell_below hb13 (cell_below hb12 t1)
      have G13 := hidT (G9.out.below hb913)
      have OL13 := hidT (OL9.out.below hb913)
      have N13 := hidT (N9.out.tr (Tr.of_below (S := fun _ => True) hb913))
      have I13 := hidT (I9.out.tr (Tr.of_below (S := fun _ => True) hb913))
      have F13 := hidT (F9.out.tr (Tr.of_below (S := fun _ => True) hb913))
      clear u0 u1 t0 t1 hb911 hb12 hb13 of12 hb913 G9 OL9 N9 I9 F9 al9 il9 of9 hB11 hB12 hB9
      have e1 := nEnd_le (c := 2) (d := 6) (by omega) (by omega) (x.als.map fun y => y.tests.length) 1
      have e2 := nEnd_le (c := 0) (d := 1) (by omega) (by omega) (x.of.map List.length) (nEnd 2 6 1 (x.als.map fun y => y.tests.length))
      have g1 := nEnd_ge 2 6 (by omega) (by omega) (x.als.map fun y => y.tests.length) 1
      have g2 := nEnd_ge 0 1 (by omega) (by omega) (x.of.map List.length) (nEnd 2 6 1 (x.als.map fun y => y.tests.length))
      obtain ⟨K1, hK1⟩ : ∃ K, K = nEnd 0 1 (nEnd 2 6 1 (x.als.map fun y => y.tests.length)) (x.of.map List.length) := ⟨_, rfl⟩
      have hMN := hidT (markNet_tr (Seg w5.heap.size w6.heap.size) a6 (x.als.map fun y => y.tests.length) c6 a6' (x.of.map List.length) c6' 1 w13 N13.out I13.out (by omega) (fun n hn => by have := mem_le_sum _ n hn; omega) (by omega) (fun n hn => by have := mem_le_sum _ n hn; omega) (by omega) (by omega))
      rw [List.length_map, List.length_map, ← hK1] at hMN
      have b1 : 1 ≤ K1 ∧ K1 ≤ 20000000 := by omega
      clear e1 e2 g1 g2 hK1
      go_wp2_with fail
      refine hMN.out.mono ?_
      rintro e w14 ⟨rfl, t14⟩
      have h14 : Below w.heap.size w13 w14 := t14.below hB13.size (fun g hg => Nat.le_trans hB5.size hg.1)
      have hB14 : Below w.heap.size w w14 := hB13.trans h14
      have G14 := hidT (G13.out.trS t14 (fun g hg hS => by have h1 := (G13.out.range hg).1; have h2 := hS.2; omega))
      have OL14 := hidT (OL13.out.trS t14 (fun g hg hS => by have h1 := R5.out g hg; have h2 := hS.1; omega))
      have F14 := hidT (F13.out.tr t14)
      have m0 := t14.keep _ _ q0 rfl
      have m1 := t14.keep _ _ q1 rfl
      have s14 := h14.size
      clear q0 q1 v0 v1 G13 OL13 F13 N13 I13 hMN t14 h14
      have e3 := nEnd_le (c := 2) (d := 3) (by omega) (by omega) (fs.map fun f => f.slots.length) K1
      have g3 := nEnd_ge 2 3 (by omega) (by omega) (fs.map fun f => f.slots.length) K1
      obtain ⟨K2, hK2⟩ : ∃ K, K = nEnd 2 3 K1 (fs.map fun f => f.slots.length) := ⟨_, rfl⟩
      have hMF := hidT (markFactS_tr (Seg (w6.heap.size + 1) w7.heap.size) (some ⟨w6.heap.size + 1, 0, none⟩) (fs.map fun f => f.slots.length) fs.length K1 w14 F14.out (by omega) (fun n hn => by have := mem_le_sum _ n hn; omega) (by omega) (by omega))
      rw [List.length_map, ← hK2] at hMF
      have b2 : ¬ K2 < 0 := by omega
      clear e3 g3 hK2
      go_wp2_with fail
      refine hMF.out.mono ?_
      rintro e w15 ⟨rfl, t15⟩
      have h15 : Below w.heap.size w14 w15 := t15.below hB14.size (fun g hg => by have h1 := hB6.size; have h2 := hg.1; omega)
      have hB15 : Below w.heap.size w w15 := hB14.trans h15
      have G15 := hidT (G14.out.trS t15 (fun g hg hS => by have h1 := (G14.out.range hg).1; have h2 := hS.2; omega))
      have OL15 := hidT (OL14.out.trS t15 (fun g hg hS => by have h1 := R5.out g hg; have h2 := hS.1; omega))
      have n0 := t15.keep _ _ m0 rfl
      have n1 := t15.keep _ _ m1 rfl
      have s15 := h15.size
      clear m0 m1 G14 OL14 F14 hMF t15 h15
      go_wp2_with fail
      refine (eqIntSS_same a8 a5 c8 c5 M _ G15.out.ils OL15.out.ils hMle).mono ?_
      rintro e w16 ⟨rfl, hb16⟩
      have hB16 : Below w.heap.size w w16 := hB15.trans (hb16.mono hB15.size)
      have G16 := hidT (G15.out.below hb16)
      have OL16 := hidT (OL15.out.below hb16)
      have m0 := cell_below hb16 n0
      have m1 := cell_below hb16 n1
      have s16 := hb16.size
      clear n0 n1 G15 OL15 hb16
      have b3 := iEnd_ge M 1
      obtain ⟨K3, hK3⟩ : ∃ K, K = iEnd 1 M := ⟨_, rfl⟩
      have hMS := hidT (markIntSS_own a8 c8 M vs8 _ 1 w16 G16.out hMl hMs (by omega) hMend)
      rw [← hK3] at hMS
      go_wp2_with fail
      refine hMS.out.mono ?_
      rintro e w17 ⟨rfl, g17, k17⟩
      have h17 : Below w7.heap.size w16 w17 := k17.below (by omega) (fun g hg => (G16.out.range hg).1)
      have hB17 : Below w.heap.size w w17 := hB16.trans (h17.mono hB7.size)
      have OL17 := hidT (OL16.out.kept fun g hg => h17.block g (by have := R5.out g hg; omega))
      have n0 := (h17.cell (by have h1 := hB6.size; show w.heap.size < w7.heap.size; omega)).trans m0
      have n1 := (h17.cell (by have h1 := hB6.size; show w.heap.size < w7.heap.size; omega)).trans m1
      have G17 := hidT g17
      clear m0 m1 g17 k17 hMS OL16 G16 b2
      have hHS := hidT (heldIntSS_any a8 c8 M 1 w17 G17.out.ils hMl hMs (by omega) hMend)
      rw [← hK3] at hHS
      have b4 : ¬ K3 < 0 := by omega
      go_wp2_with fail
      refine hHS.out.mono ?_
      rintro e w18 ⟨rfl, hb18⟩
      have hB18 : Below w.heap.size w w18 := hB17.trans (hb18.mono hB17.size)
      have OL18 := hidT (OL17.out.below hb18)
      have m0 := cell_below hb18 n0
      have m1 := cell_below hb18 n1
      clear n0 n1 OL17 G17 hHS hb18
      go_wp2_with fail
      refine (toNet_any x a_als c_als a_of c_of _ (h_als.below hB18) (h_of.below hB18) hle).mono ?_
      rintro e w19 ⟨⟨a19, c19, a19', c19', rfl, al19, il19⟩, hb19⟩
      have hB19 : Below w.heap.size w w19 := hB18.trans (hb19.mono hB18.size)
      clear m0 m1
      go_wp2_with fail
      refine (toFactS_any a c fs _ (hv.below hB19) hfl hsl).mono ?_
      rintro e w20 ⟨⟨rfl, gs20, of20⟩, hb20⟩
      have hB20 : Below w.heap.size w w20 := hB19.trans (hb20.mono hB19.size)
      go_wp2_with fail
      refine (hIM.out _ _ _ _ _ _ _ (al19.below hb20) of20.at).mono ?_
      rintro e w21 ⟨⟨a21, c21, vs21, rfl, ol21⟩, hb21⟩
      have hB21 : Below w.heap.size w w21 := hB20.trans (hb21.mono hB20.size)
      have OL21 := hidT (((OL18.out.below hb19).below hb20).below hb21)
      go_wp2_with fail
      refine (eqIntSS_same a21 a5 c21 c5 M _ ol21.ils OL21.out.ils hMle).mono ?_
      rintro e w22 ⟨rfl, hb22⟩
      have hB22 : Below w.heap.size w w22 := hB21.trans (hb22.mono hB21.size)
      go_wp2_with fail
      go_ret
      exact ⟨rfl, hB22⟩
end Go.Proofs.Ytofmgaebgojonaa
