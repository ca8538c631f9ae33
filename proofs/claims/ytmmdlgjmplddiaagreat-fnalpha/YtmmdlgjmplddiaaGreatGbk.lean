/-
  OUR OWN TEXT. Ao3, An3, TyA, one behind the other.
-/
import Derived.Test.YtmmdlgjmplddiaaGreatGbj
import Derived.Test.YtmmdlgjmplddiaaGreatGam
import Derived.Test.YtmmdlgjmplddiaaGreatGat
import Derived.Test.YtmmdlgjmplddiaaGreatGas
import Derived.Test.YtmmdlgjmplddiaaGreatGaa
import Derived.Deep.DeepCutAuto
import Derived.Test.YtmmdlgjmplddiaaGreatGah
import Derived.Test.YtmmdlgjmplddiaaGreatGaj
import Derived.Test.YtmmdlgjmplddiaaGreatGai
import Derived.Test.YtmmdlgjmplddiaaGreatGal
namespace Go.Proofs.YtmmdlgjmplddiaaGreat
open Go.RowKit
attribute [local go_sem ↓] Go.wp_at_zero Go.wp_at_succ

set_option maxHeartbeats 3200000 in
theorem sAlphaOf_any (p : Pt) (a_terms : Option Addr) (c_terms : Nat) {q : Option Nat} (w : World) (h_terms : TmsAt q w a_terms p.terms) (hc : p.cls.size ≤ maxLen) (hs : ListLe Tm.le maxLen p.terms) (hl : p.terms.length ≤ 1048576) :
    Calls Tryz.prog 14 #[.agg #[.bool p.neg, .string p.cls, .slice a_terms p.terms.length c_terms]] w fun e w' =>
      (∃ a' c', e = .returned (.agg #[.string (alphaOf p).cls, .int .i64 (alphaOf p).arity, .slice a' (alphaOf p).tests.length c']) ∧ w'.ownsRow w.heap.size 111 6 (.slice a' (alphaOf p).tests.length c') (alphaOf p).tests.length ((alphaOf p).tests.flatMap ttCells)) ∧ Below w.heap.size w w' := by
  have B2 : ∀ o o1, Below w.heap.size w ((w.alloc o).alloc o1) := fun o o1 => ((Below.refl _ _).alloc (Nat.le_refl _) _).alloc (by simp) _
  have hGP := hidO (fun w' h => l2GoodPat_any p a_terms c_terms (q := q) w' h hc hs hl)
  cases hg : gPt p
  · rw [hg] at hGP
    have HA : Hid (alphaOf p = ⟨⟨#[]⟩, 0, []⟩) := show alphaOf p = _ from by simp [alphaOf, hg]
    go_enter Tryz.func14, Tryz.ntmps14
    go_wp2_with (go_at_call 36; refine (hGP.out _ (h_terms.below (B2 _ _))).mono ?_; rintro e w1 ⟨rfl, hb1⟩; have hr := ((C3.made (w.alloc (.cells #[.bool p.neg, .string p.cls, .slice a_terms p.terms.length c_terms] 38)) 57 (.string ⟨#[]⟩) (.int .i64 0) (.slice none 0 0)).below hb1); simp only [World.size_alloc] at hr; obtain ⟨r0, r1, r2, f0, f1, f2⟩ := hr)
    have hB1 : Below w.heap.size w w1 := (B2 _ _).trans (hb1.mono (by simp; omega))
    refine bodyPost_ret (v := .agg #[.string ⟨#[]⟩, .int .i64 0, .slice none 0 0]) (by simp [results, Tryz.results14, go_sem, r0, r1, r2]) rfl ⟨⟨none, 0, by rw [HA.out]; rfl, by rw [HA.out]; exact World.ownsRow_nil _ _ _ _⟩, ?_⟩
    exact ((hB1.setCell (by simp) _).setCell (by simp) _).setCell (by simp) _
  · rw [hg] at hGP
    have HA : Hid (alphaOf p = ⟨p.cls, (p.terms.length : Int), testsUpTo p.terms p.terms.length⟩) := show alphaOf p = _ from by simp [alphaOf, hg]
    have h6 := gPt_six hg
    have HGT := hidO (fun i t ht => gPt_mem hg (i := i) (t := t) ht)
    clear hg
    go_enter Tryz.func14, Tryz.ntmps14
    go_wp2_with (go_at_call 36; refine (hGP.out _ (h_terms.below (B2 _ _))).mono ?_; rintro e w1 ⟨rfl, hb1⟩; have hr := ((C3.made (w.alloc (.cells #[.bool p.neg, .string p.cls, .slice a_terms p.terms.length c_terms] 38)) 57 (.string ⟨#[]⟩) (.int .i64 0) (.slice none 0 0)).below hb1); simp only [World.size_alloc] at hr; have hp := (((C3.made w 38 (.bool p.neg) (.string p.cls) (.slice a_terms p.terms.length c_terms)).below ((Below.refl _ _).alloc (Nat.le_refl _) _)).below hb1); obtain ⟨p0, p1, p2, _, _, _⟩ := id hp; have p2' : ∀ o, (w1.alloc o).cell? ⟨w.heap.size, 2, none⟩ = some (.slice a_terms p.terms.length c_terms) := fun o => cell_below ((Below.refl _ _).alloc (Nat.le_refl _) _) p2)
    have hB1 : Below w.heap.size w w1 := (B2 _ _).trans (hb1.mono (by simp; omega))
    have hlt := hr.lt
    have A1 : ∀ o, Below w1.heap.size w1 (w1.alloc o) := fun o => (Below.refl _ _).alloc (Nat.le_refl _) _
    have HR := hidO hr
    have HP := hidO hp
    clear hr hp p0 p1 p2 p2'
    go_loopw [20] (fun i wr => ∃ (k : Nat) (a' : Option Addr) (c' : Nat), k ≤ p.terms.length ∧ i = .int .i64 k ∧ C3 wr w1.heap.size (.string p.cls) (.int .i64 (p.terms.length : Int)) (.slice a' (testsUpTo p.terms k).length c') ∧ wr.ownsRow (w1.heap.size + 1) 111 6 (.slice a' (testsUpTo p.terms k).length c') (testsUpTo p.terms k).length ((testsUpTo p.terms k).flatMap ttCells) ∧ Below w1.heap.size w1 wr) (fun i _ => p.terms.length - (intOf i).toNat)
    case atStart => exact ⟨0, none, 0, by omega, rfl, C3.made _ _ _ _ _, World.ownsRow_nil _ _ _ _, A1 _⟩
    case round =>
      obtain ⟨k, a', c', hk, rfl, hout, hown, hb⟩ := hrel
      have HO := hidO hown
      have HOUT := hidO hout
      clear hown
      have hol := hout.lt
      have hBw : Below w.heap.size w wr := hB1.trans (hb.mono hB1.size)
      have hrz := HR.out.belowB hb hlt
      have hpp := HP.out.belowB hb (by omega)
      by_cases hkl : k < p.terms.length
      · obtain ⟨t, htk⟩ : ∃ t, p.terms[k]? = some t := ⟨p.terms[k], by simp [hkl]⟩
        obtain ⟨b, o, ea, hq, c0, c1, c2, c3, c4, c5⟩ := (h_terms.below hBw).get htk
        subst ea
        have hgt := HGT.out k t htk
        have HTS := hidO (tests_succ htk)
        have htl := tests_len p.terms k
        have R2 : ∀ o o1, Below wr.heap.size wr ((wr.alloc o).alloc o1) := fun o o1 => ((Below.refl _ _).alloc (Nat.le_refl _) _).alloc (by simp) _
        clear hrz
        by_cases k0 : t.kind = 0
        · have HTN : Hid (testsUpTo p.terms (k + 1) = testsUpTo p.terms k) := show testsUpTo p.terms (k + 1) = _ from by rw [HTS.out]; simp [testOf, k0]
          rw [k0] at c0
          clear hout hpp
          go_wp2
          go_roundw
          case rel => exact ⟨k + 1, a', c', by omega, by go_num, by rw [HTN.out]; exact HOUT.out.below (R2 _ _), by rw [HTN.out]; exact (HO.out.alloc _).alloc _, hb.trans ((R2 _ _).mono hb.size)⟩
          case measure => simp [intOf]; omega
        · cases hve : t.var.toList.isEmpty
          · have HZV := hidO (gTm_zero hgt hve)
            have hE := hidO (fun w' h => l3Earlier_any p (some ⟨b, o, none⟩) c_terms (q := q) k t.var w' h (by omega) hl)
            have HTM := hidO (fun o o1 => (h_terms.below hBw).below (R2 o o1))
            have p0 : ∀ o o1, ((wr.alloc o).alloc o1).cell? ⟨w.heap.size, 0, none⟩ = _ := fun o o1 => cell_below (R2 o o1) hpp.1
            have p1 : ∀ o o1, ((wr.alloc o).alloc o1).cell? ⟨w.heap.size, 1, none⟩ = _ := fun o o1 => cell_below (R2 o o1) hpp.2.1
            have p2 : ∀ o o1, ((wr.alloc o).alloc o1).cell? ⟨w.heap.size, 2, none⟩ = _ := fun o o1 => cell_below (R2 o o1) hpp.2.2.1
            clear hout hpp
            by_cases k3 : t.kind = 3
            · have t3 : tmOp t = t.op := by simp [tmOp, k3]
              rw [k3] at c0
              cases hea : earlier p.terms k t.var with
              | none =>
                have HTN : Hid (testsUpTo p.terms (k + 1) = testsUpTo p.terms k) := show testsUpTo p.terms (k + 1) = _ from by rw [HTS.out]; simp [testOf, hve, hea]
                rw [hea] at hE
                simp only [atI] at hE
                go_wp2_with (first | (go_at_call 37; refine (hE.out _ ?_).mono ?_; exact HTM.out _ _; rintro e w2 ⟨rfl, hb2⟩; have x0 : w2.cell? ⟨wr.heap.size + 1, 0, none⟩ = some (.int .i64 (k : Int)) := cell_below hb2 (by simp [go_sem]); have x1 : w2.cell? ⟨wr.heap.size + 1, 1, none⟩ = some (.int .i64 t.op) := cell_below hb2 (by simp [go_sem]); have x2 : w2.cell? ⟨wr.heap.size + 1, 2, none⟩ = some (.int .i64 (-1)) := cell_below hb2 (by simp [go_sem]); have x3 : w2.cell? ⟨wr.heap.size + 1, 3, none⟩ = some (.int .i64 t.val.kind) := cell_below hb2 (by simp [go_sem]); have x4 : w2.cell? ⟨wr.heap.size + 1, 4, none⟩ = some (.int .i64 t.val.num) := cell_below hb2 (by simp [go_sem]); have x5 : w2.cell? ⟨wr.heap.size + 1, 5, none⟩ = some (.string t.val.sym) := cell_below hb2 (by simp [go_sem]); have xf : w2.frozen? ⟨wr.heap.size + 1, 2, none⟩ = false := (by rw [(bcell hb2).2 _ _ (by simp)]; simp [go_sem]); have hR2 : Below wr.heap.size wr w2 := (R2 _ _).trans (hb2.mono (by simp; omega)); have q2 := (HOUT.out.below hR2).2.2.1) | fail)
                have hWs : Below wr.heap.size wr (w2.setCell ⟨wr.heap.size + 1, 2, none⟩ (.int .i64 (-1))) := hR2.setCell (by simp) _
                go_roundw
                case rel => exact ⟨k + 1, a', c', by omega, by go_num, by rw [HTN.out]; exact HOUT.out.below hWs, by rw [HTN.out]; exact ao_own HO.out hWs, hb.trans (hWs.mono hb.size)⟩
                case measure => simp [intOf]; omega
              | some e0 =>
                have HTN : Hid (testsUpTo p.terms (k + 1) = testsUpTo p.terms k ++ [⟨(k : Int), t.op, (e0 : Int), t.val⟩]) := show testsUpTo p.terms (k + 1) = _ from by rw [HTS.out]; simp [testOf, k0, hve, hea, t3, HZV.out]
                rw [hea] at hE
                simp only [atI] at hE
                have e00 : ¬ (e0 : Int) < 0 := by omega
                go_wp2_with (first | (go_at_call 37; refine (hE.out _ ?_).mono ?_; exact HTM.out _ _; rintro e w2 ⟨rfl, hb2⟩; have x0 : w2.cell? ⟨wr.heap.size + 1, 0, none⟩ = some (.int .i64 (k : Int)) := cell_below hb2 (by simp [go_sem]); have x1 : w2.cell? ⟨wr.heap.size + 1, 1, none⟩ = some (.int .i64 t.op) := cell_below hb2 (by simp [go_sem]); have x2 : w2.cell? ⟨wr.heap.size + 1, 2, none⟩ = some (.int .i64 (-1)) := cell_below hb2 (by simp [go_sem]); have x3 : w2.cell? ⟨wr.heap.size + 1, 3, none⟩ = some (.int .i64 t.val.kind) := cell_below hb2 (by simp [go_sem]); have x4 : w2.cell? ⟨wr.heap.size + 1, 4, none⟩ = some (.int .i64 t.val.num) := cell_below hb2 (by simp [go_sem]); have x5 : w2.cell? ⟨wr.heap.size + 1, 5, none⟩ = some (.string t.val.sym) := cell_below hb2 (by simp [go_sem]); have xf : w2.frozen? ⟨wr.heap.size + 1, 2, none⟩ = false := (by rw [(bcell hb2).2 _ _ (by simp)]; simp [go_sem]); have hR2 : Below wr.heap.size wr w2 := (R2 _ _).trans (hb2.mono (by simp; omega)); have q2 := (HOUT.out.below hR2).2.2.1) | (at_builtin; refine wpList_append_any (by rfl) (.tmp 51) (.tmp 53) 55 (by rfl) (w1.heap.size + 1) 111 _ 6 56 Tryz.underlying55 infoTt' (by rfl) (by omega) _ (testsUpTo p.terms k).length _ (by rfl) (ao_own HO.out ((hR2.setCell (by simp) _).alloc (by simp; have := hR2.size; omega) _)) (some ⟨_, 0, none⟩) 1 1 (by rfl) (ttCells ⟨(k : Int), t.op, (e0 : Int), t.val⟩) (by rfl) (fun e => by cases e) (news_allocA _ _ _ _ (by simp)) (ttCells_one _) (by unfold maxLen; omega) (by omega) (by have := hR2.size; simp; omega) ?_; intro a3 c3' w3 ho3 hg3 hl3; have hW3 : Below (w1.heap.size + 1) wr w3 := ((((hR2.setCell (by simp) _).alloc (by simp; have := hR2.size; omega) _).mono (by omega)).grown hg3.out (by have := hR2.size; simp; omega) (fun g hg => (HO.out.lt g hg).1)); obtain ⟨_, _, m2, _, _, n2⟩ := HOUT.out.belowB hW3 (by omega)) | fail)
                have ho3' : w3.ownsRow (w1.heap.size + 1) 111 6 (.slice a3 (testsUpTo p.terms (k + 1)).length c3') (testsUpTo p.terms (k + 1)).length ((testsUpTo p.terms (k + 1)).flatMap ttCells) := by
                  have := ho3.out
                  rw [HTN.out, List.flatMap_append]
                  simpa [ttCells] using this
                have hlen : (testsUpTo p.terms (k + 1)).length = (testsUpTo p.terms k).length + 1 := by rw [HTN.out]; simp
                obtain ⟨u1, u2, u3⟩ := ao_put HOUT.out hW3 ho3' hb
                rw [hlen] at u1 u2 u3
                go_roundw
                case rel => exact ⟨k + 1, a3, c3', by omega, by go_num, by rw [hlen]; exact u1, by rw [hlen]; exact u2, u3⟩
                case measure => simp [intOf]; omega
            · have t3 : tmOp t = 1 := by simp [tmOp, k3]
              cases hea : earlier p.terms k t.var with
              | none =>
                have HTN : Hid (testsUpTo p.terms (k + 1) = testsUpTo p.terms k) := show testsUpTo p.terms (k + 1) = _ from by rw [HTS.out]; simp [testOf, hve, hea]
                rw [hea] at hE
                simp only [atI] at hE
                go_wp2_with (first | (go_at_call 37; refine (hE.out _ ?_).mono ?_; exact HTM.out _ _; rintro e w2 ⟨rfl, hb2⟩; have x0 : w2.cell? ⟨wr.heap.size + 1, 0, none⟩ = some (.int .i64 (k : Int)) := cell_below hb2 (by simp [go_sem]); have x1 : w2.cell? ⟨wr.heap.size + 1, 1, none⟩ = some (.int .i64 1) := cell_below hb2 (by simp [go_sem]); have x2 : w2.cell? ⟨wr.heap.size + 1, 2, none⟩ = some (.int .i64 (-1)) := cell_below hb2 (by simp [go_sem]); have x3 : w2.cell? ⟨wr.heap.size + 1, 3, none⟩ = some (.int .i64 t.val.kind) := cell_below hb2 (by simp [go_sem]); have x4 : w2.cell? ⟨wr.heap.size + 1, 4, none⟩ = some (.int .i64 t.val.num) := cell_below hb2 (by simp [go_sem]); have x5 : w2.cell? ⟨wr.heap.size + 1, 5, none⟩ = some (.string t.val.sym) := cell_below hb2 (by simp [go_sem]); have xf : w2.frozen? ⟨wr.heap.size + 1, 2, none⟩ = false := (by rw [(bcell hb2).2 _ _ (by simp)]; simp [go_sem]); have hR2 : Below wr.heap.size wr w2 := (R2 _ _).trans (hb2.mono (by simp; omega)); have q2 := (HOUT.out.below hR2).2.2.1) | fail)
                have hWs : Below wr.heap.size wr (w2.setCell ⟨wr.heap.size + 1, 2, none⟩ (.int .i64 (-1))) := hR2.setCell (by simp) _
                go_roundw
                case rel => exact ⟨k + 1, a', c', by omega, by go_num, by rw [HTN.out]; exact HOUT.out.below hWs, by rw [HTN.out]; exact ao_own HO.out hWs, hb.trans (hWs.mono hb.size)⟩
                case measure => simp [intOf]; omega
              | some e0 =>
                have HTN : Hid (testsUpTo p.terms (k + 1) = testsUpTo p.terms k ++ [⟨(k : Int), 1, (e0 : Int), t.val⟩]) := show testsUpTo p.terms (k + 1) = _ from by rw [HTS.out]; simp [testOf, k0, hve, hea, t3, HZV.out]
                rw [hea] at hE
                simp only [atI] at hE
                have e00 : ¬ (e0 : Int) < 0 := by omega
                go_wp2_with (first | (go_at_call 37; refine (hE.out _ ?_).mono ?_; exact HTM.out _ _; rintro e w2 ⟨rfl, hb2⟩; have x0 : w2.cell? ⟨wr.heap.size + 1, 0, none⟩ = some (.int .i64 (k : Int)) := cell_below hb2 (by simp [go_sem]); have x1 : w2.cell? ⟨wr.heap.size + 1, 1, none⟩ = some (.int .i64 1) := cell_below hb2 (by simp [go_sem]); have x2 : w2.cell? ⟨wr.heap.size + 1, 2, none⟩ = some (.int .i64 (-1)) := cell_below hb2 (by simp [go_sem]); have x3 : w2.cell? ⟨wr.heap.size + 1, 3, none⟩ = some (.int .i64 t.val.kind) := cell_below hb2 (by simp [go_sem]); have x4 : w2.cell? ⟨wr.heap.size + 1, 4, none⟩ = some (.int .i64 t.val.num) := cell_below hb2 (by simp [go_sem]); have x5 : w2.cell? ⟨wr.heap.size + 1, 5, none⟩ = some (.string t.val.sym) := cell_below hb2 (by simp [go_sem]); have xf : w2.frozen? ⟨wr.heap.size + 1, 2, none⟩ = false := (by rw [(bcell hb2).2 _ _ (by simp)]; simp [go_sem]); have hR2 : Below wr.heap.size wr w2 := (R2 _ _).trans (hb2.mono (by simp; omega)); have q2 := (HOUT.out.below hR2).2.2.1) | (at_builtin; refine wpList_append_any (by rfl) (.tmp 51) (.tmp 53) 55 (by rfl) (w1.heap.size + 1) 111 _ 6 56 Tryz.underlying55 infoTt' (by rfl) (by omega) _ (testsUpTo p.terms k).length _ (by rfl) (ao_own HO.out ((hR2.setCell (by simp) _).alloc (by simp; have := hR2.size; omega) _)) (some ⟨_, 0, none⟩) 1 1 (by rfl) (ttCells ⟨(k : Int), 1, (e0 : Int), t.val⟩) (by rfl) (fun e => by cases e) (news_allocA _ _ _ _ (by simp)) (ttCells_one _) (by unfold maxLen; omega) (by omega) (by have := hR2.size; simp; omega) ?_; intro a3 c3' w3 ho3 hg3 hl3; have hW3 : Below (w1.heap.size + 1) wr w3 := ((((hR2.setCell (by simp) _).alloc (by simp; have := hR2.size; omega) _).mono (by omega)).grown hg3.out (by have := hR2.size; simp; omega) (fun g hg => (HO.out.lt g hg).1)); obtain ⟨_, _, m2, _, _, n2⟩ := HOUT.out.belowB hW3 (by omega)) | fail)
                have ho3' : w3.ownsRow (w1.heap.size + 1) 111 6 (.slice a3 (testsUpTo p.terms (k + 1)).length c3') (testsUpTo p.terms (k + 1)).length ((testsUpTo p.terms (k + 1)).flatMap ttCells) := by
                  have := ho3.out
                  rw [HTN.out, List.flatMap_append]
                  simpa [ttCells] using this
                have hlen : (testsUpTo p.terms (k + 1)).length = (testsUpTo p.terms k).length + 1 := by rw [HTN.out]; simp
                obtain ⟨u1, u2, u3⟩ := ao_put HOUT.out hW3 ho3' hb
                rw [hlen] at u1 u2 u3
                go_roundw
                case rel => exact ⟨k + 1, a3, c3', by omega, by go_num, by rw [hlen]; exact u1, by rw [hlen]; exact u2, u3⟩
                case measure => simp [intOf]; omega
          · by_cases k3 : t.kind = 3
            · have HTN : Hid (testsUpTo p.terms (k + 1) = testsUpTo p.terms k ++ [⟨(k : Int), t.op, -1, t.val⟩]) := show testsUpTo p.terms (k + 1) = _ from by rw [HTS.out]; simp [testOf, hve, tmOp, k3]
              have o2' : ∀ o o1, ((wr.alloc o).alloc o1).cell? ⟨w1.heap.size, 2, none⟩ = _ := fun o o1 => cell_below (R2 o o1) hout.2.2.1
              rw [k3] at c0
              clear hout hpp
              go_wp2_with (at_builtin; refine wpList_append_any (by rfl) (.tmp 51) (.tmp 53) 55 (by rfl) (w1.heap.size + 1) 111 _ 6 56 Tryz.underlying55 infoTt' (by rfl) (by omega) _ (testsUpTo p.terms k).length _ (by rfl) (((HO.out.alloc _).alloc _).alloc _) (some ⟨_, 0, none⟩) 1 1 (by rfl) (ttCells ⟨(k : Int), t.op, -1, t.val⟩) (by rfl) (fun e => by cases e) (news_allocA _ _ _ _ (by simp)) (ttCells_one _) (by unfold maxLen; omega) (by omega) (by simp; omega) ?_; intro a3 c3' w3 ho3 hg3 hl3; have hW3 : Below (w1.heap.size + 1) wr w3 := (((((Below.refl _ wr).alloc (by omega) _).alloc (by simp; omega) _).alloc (by simp; omega) _).grown hg3.out (by simp; omega) (fun g hg => (HO.out.lt g hg).1)); obtain ⟨_, _, m2, _, _, n2⟩ := HOUT.out.belowB hW3 (by omega))
              have ho3' : w3.ownsRow (w1.heap.size + 1) 111 6 (.slice a3 (testsUpTo p.terms (k + 1)).length c3') (testsUpTo p.terms (k + 1)).length ((testsUpTo p.terms (k + 1)).flatMap ttCells) := by
                have := ho3.out
                rw [HTN.out, List.flatMap_append]
                simpa [ttCells] using this
              have hlen : (testsUpTo p.terms (k + 1)).length = (testsUpTo p.terms k).length + 1 := by rw [HTN.out]; simp
              obtain ⟨u1, u2, u3⟩ := ao_put HOUT.out hW3 ho3' hb
              rw [hlen] at u1 u2 u3
              go_roundw
              case rel => exact ⟨k + 1, a3, c3', by omega, by go_num, by rw [hlen]; exact u1, by rw [hlen]; exact u2, u3⟩
              case measure => simp [intOf]; omega
            · have HTN : Hid (testsUpTo p.terms (k + 1) = testsUpTo p.terms k ++ [⟨(k : Int), 1, -1, t.val⟩]) := show testsUpTo p.terms (k + 1) = _ from by rw [HTS.out]; simp [testOf, k0, hve, tmOp, k3]
              have o2' : ∀ o o1, ((wr.alloc o).alloc o1).cell? ⟨w1.heap.size, 2, none⟩ = _ := fun o o1 => cell_below (R2 o o1) hout.2.2.1
              clear hout hpp
              go_wp2_with (at_builtin; refine wpList_append_any (by rfl) (.tmp 51) (.tmp 53) 55 (by rfl) (w1.heap.size + 1) 111 _ 6 56 Tryz.underlying55 infoTt' (by rfl) (by omega) _ (testsUpTo p.terms k).length _ (by rfl) (((HO.out.alloc _).alloc _).alloc _) (some ⟨_, 0, none⟩) 1 1 (by rfl) (ttCells ⟨(k : Int), 1, -1, t.val⟩) (by rfl) (fun e => by cases e) (news_allocA _ _ _ _ (by simp)) (ttCells_one _) (by unfold maxLen; omega) (by omega) (by simp; omega) ?_; intro a3 c3' w3 ho3 hg3 hl3; have hW3 : Below (w1.heap.size + 1) wr w3 := (((((Below.refl _ wr).alloc (by omega) _).alloc (by simp; omega) _).alloc (by simp; omega) _).grown hg3.out (by simp; omega) (fun g hg => (HO.out.lt g hg).1)); obtain ⟨_, _, m2, _, _, n2⟩ := HOUT.out.belowB hW3 (by omega))
              have ho3' : w3.ownsRow (w1.heap.size + 1) 111 6 (.slice a3 (testsUpTo p.terms (k + 1)).length c3') (testsUpTo p.terms (k + 1)).length ((testsUpTo p.terms (k + 1)).flatMap ttCells) := by
                have := ho3.out
                rw [HTN.out, List.flatMap_append]
                simpa [ttCells] using this
              have hlen : (testsUpTo p.terms (k + 1)).length = (testsUpTo p.terms k).length + 1 := by rw [HTN.out]; simp
              obtain ⟨u1, u2, u3⟩ := ao_put HOUT.out hW3 ho3' hb
              rw [hlen] at u1 u2 u3
              go_roundw
              case rel => exact ⟨k + 1, a3, c3', by omega, by go_num, by rw [hlen]; exact u1, by rw [hlen]; exact u2, u3⟩
              case measure => simp [intOf]; omega
      · have hkk : k = p.terms.length := by omega
        subst hkk
        obtain ⟨o0, o1, o2, _, _, _⟩ := hout
        obtain ⟨r0, r1, r2, f0, f1, f2⟩ := hrz
        clear hpp
        go_wp2
        refine bodyPost_ret (v := .agg #[.string p.cls, .int .i64 (p.terms.length : Int), .slice a' (testsUpTo p.terms p.terms.length).length c']) (by simp [results, Tryz.results14, go_sem, r0, r1, r2]) rfl ⟨⟨a', c', by rw [HA.out], ?_⟩, ?_⟩
        · rw [HA.out]
          refine owns_base (owns_of_block HO.out (fun g hg => ?_)) (by omega)
          have hgl := (HO.out.lt g hg).1
          exact (((Low.setCell (B := w1.heap.size + 1) (by omega) _).trans (Low.setCell (by omega) _)).trans (Low.setCell (by omega) _)) g hgl
        · exact ((hBw.setCell (by simp) _).setCell (by simp) _).setCell (by simp) _
end Go.Proofs.YtmmdlgjmplddiaaGreat

namespace Go.Proofs.YtmmdlgjmplddiaaGreat
open Go.RowKit
attribute [local go_sem ↓] Go.wp_at_zero Go.wp_at_succ

def netOf (rs : List Ru) : Nt := if (chk rs).1 = 0 then ⟨(netA [] rs).1, (netA [] rs).2⟩ else ⟨[], []⟩
theorem lift_nb0 {P : World → Prop} {w : World} {b : Nat} {v0 v1 y : Value} (h0 : NB w b v0 v1) (h : ∀ wt, NB wt b y v1 → Turned w wt b → P wt) : P (w.setCell ⟨b, 0, none⟩ y) := h _ (h0.set0 y) (Turned.setCells [y] 0 w b)
theorem lift_nb1 {P : World → Prop} {w : World} {b : Nat} {v0 v1 y : Value} (h0 : NB w b v0 v1) (h : ∀ wt, NB wt b v0 y → Turned w wt b → P wt) : P (w.setCell ⟨b, 1, none⟩ y) := h _ (h0.set1 y) (Turned.setCells [y] 1 w b)
theorem own_turned {w w' : World} {base b : Nat} {e t : TypeId} {m : Nat} {v : Value} {n : Nat} {xs : List Value} {c : Array Value} {fr : Nat × Nat} (h : w.ownsRow base e m v n xs) (hb : w.heap[b]? = some (.cells c t fr)) (ht : Turned w w' b) (hne : t ≠ e) : w'.ownsRow base e m v n xs :=
  owns_of_block h fun k hk => ht.block k (fun e => by
    obtain ⟨c', hc'⟩ := own_type h hk
    subst e
    exact own_far hb hc' hne)
theorem AO.turned {w w' : World} {base b : Nat} {a : Option Addr} {c' : Nat} {L : List AlX} {v0 v1 : Value} (h : AO w base a c' L) (hb : NB w b v0 v1) (ht : Turned w w' b) : AO w' base a c' L := ⟨own_turned h.1 hb ht (by decide), fun x hx => ⟨(h.2 x hx).1, own_turned (h.2 x hx).2 hb ht (by decide)⟩⟩
theorem OLL.turned {w w' : World} {base b : Nat} {v : Value} {n : Nat} {xss : List (List Int)} {vs : List Value} {v0 v1 : Value} (h : OLL w base v n xss vs) (hb : NB w b v0 v1) (ht : Turned w w' b) : OLL w' base v n xss vs :=
  h.kept fun g hgi => ht.block g (fun e => by
    subst e
    rcases h.inType hgi with ⟨c', hc'⟩ | ⟨c', hc'⟩
    · exact own_far hb hc' (by decide)
    · exact own_far hb hc' (by decide))
theorem NB.turned {w w' : World} {b d : Nat} {v0 v1 : Value} (h : NB w b v0 v1) (ht : Turned w w' d) (hne : b ≠ d) : NB w' b v0 v1 := (ht.block b hne).trans h
theorem icells_snoc (xs : List Int) (x : Int) : icells (xs ++ [x]) = icells xs ++ [.int .i64 x] := by simp [icells]
theorem alCells_one (x : AlX) (h : ∃ a n c, x.2 = .slice a n c) : ∀ u ∈ alCells x, u.oneCell' = true := by
  intro u hu
  obtain ⟨a, n, c, h⟩ := h
  simp [alCells] at hu
  rcases hu with rfl | rfl | rfl
  · rfl
  · rfl
  · rw [h]; rfl
end Go.Proofs.YtmmdlgjmplddiaaGreat


