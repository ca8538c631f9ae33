/-
  OUR OWN TEXT. The Alpha of a pattern: the program's side.
-/
import Derived.Test.YtgamdkokmkagaaaGreatQb
import Derived.Test.YtgamdkokmkagaaaGreatJd
import Derived.Deep.RegionHeld3
import Derived.Deep.DrawnRows
namespace Go.Proofs.YtgamdkokmkagaaaGreat
open Go.RowKit
attribute [local go_sem ↓] Go.wp_at_zero Go.wp_at_succ

theorem cell_grownO {w w' : World} {ob : Option Nat} {b o : Nat} (h : w.grownBy w' ob) (hne : ob ≠ some b) (hl : b < w.heap.size) : w'.cell? ⟨b, o, none⟩ = w.cell? ⟨b, o, none⟩ := by
  unfold World.cell?
  rw [h.block b hl (by first | exact hne | exact fun e => hne e | exact fun e => hne e.symm)]

set_option maxHeartbeats 6400000 in
theorem iAlphaOf_any (p : Pt) (a_terms : Option Addr) (c_terms : Nat) {q : Option Nat} (w : World) (h_terms : TmsAt q w a_terms p.terms) (hc : p.cls.size ≤ maxLen) (hs : ListLe Tm.le maxLen p.terms) (hl : p.terms.length ≤ 1048576) (hcp : p.terms.length ≤ c_terms) :
    Calls Tryz.prog 42 #[.agg #[.bool p.neg, .string p.cls, .slice a_terms p.terms.length c_terms]] w fun e w' =>
      (∃ a' c', e = .returned (.agg #[.string (alphaOf p).cls, .int .i64 (alphaOf p).arity, .slice a' (alphaOf p).tests.length c']) ∧ w'.ownsRow w.heap.size 90 6 (.slice a' (alphaOf p).tests.length c') (alphaOf p).tests.length ((alphaOf p).tests.flatMap ttCells)) ∧ Below w.heap.size w w' := by
  have B2 : ∀ o o1, Below w.heap.size w ((w.alloc o).alloc o1) := fun o o1 => ((Below.refl _ _).alloc (Nat.le_refl _) _).alloc (by simp) _
  have hGP := hidO (fun w' h => patRight_any p a_terms c_terms (q := q) w' h hc hs hl)
  cases hg : gPt p
  · rw [hg] at hGP
    have HA : Hid (alphaOf p = ⟨⟨#[]⟩, 0, []⟩) := show alphaOf p = _ from by simp [alphaOf, hg]
    go_enter Tryz.func42, Tryz.ntmps42
    go_wp2_with (go_at_call 69; refine (hGP.out _ (h_terms.below (B2 _ _))).mono ?_; rintro e w1 ⟨rfl, hb1⟩; have hr := ((C3.made (w.alloc (.cells #[.bool p.neg, .string p.cls, .slice a_terms p.terms.length c_terms] 51)) 54 (.string ⟨#[]⟩) (.int .i64 0) (.slice none 0 0)).below hb1); simp only [World.size_alloc] at hr; obtain ⟨r0, r1, r2, f0, f1, f2⟩ := hr)
    have hB1 : Below w.heap.size w w1 := (B2 _ _).trans (hb1.mono (by simp; omega))
    refine bodyPost_ret (v := .agg #[.string ⟨#[]⟩, .int .i64 0, .slice none 0 0]) (by simp [results, Tryz.results42, go_sem, r0, r1, r2]) rfl ⟨⟨none, 0, by rw [HA.out]; rfl, by rw [HA.out]; exact World.ownsRow_nil _ _ _ _⟩, ?_⟩
    exact ((hB1.setCell (by simp) _).setCell (by simp) _).setCell (by simp) _
  · rw [hg] at hGP
    have HA : Hid (alphaOf p = ⟨p.cls, (p.terms.length : Int), testsUpTo p.terms p.terms.length⟩) := show alphaOf p = _ from by simp [alphaOf, hg]
    have h6 := gPt_six hg
    have HGT := hidO (fun i t ht => gPt_mem hg (i := i) (t := t) ht)
    clear hg
    go_enter Tryz.func42, Tryz.ntmps42
    go_wp2_with (go_at_call 69; refine (hGP.out _ (h_terms.below (B2 _ _))).mono ?_; rintro e w1 ⟨rfl, hb1⟩; have hr := ((C3.made (w.alloc (.cells #[.bool p.neg, .string p.cls, .slice a_terms p.terms.length c_terms] 51)) 54 (.string ⟨#[]⟩) (.int .i64 0) (.slice none 0 0)).below hb1); simp only [World.size_alloc] at hr; have hp := (((C3.made w 51 (.bool p.neg) (.string p.cls) (.slice a_terms p.terms.length c_terms)).below ((Below.refl _ _).alloc (Nat.le_refl _) _)).below hb1); obtain ⟨p0, p1, p2, _, _, _⟩ := id hp; have p2' : ∀ o, (w1.alloc o).cell? ⟨w.heap.size, 2, none⟩ = some (.slice a_terms p.terms.length c_terms) := fun o => cell_below ((Below.refl _ _).alloc (Nat.le_refl _) _) p2)
    have hB1 : Below w.heap.size w w1 := (B2 _ _).trans (hb1.mono (by simp; omega))
    have hlt := hr.lt
    have A1 : ∀ o, Below w1.heap.size w1 (w1.alloc o) := fun o => (Below.refl _ _).alloc (Nat.le_refl _) _
    have HR := hidO hr
    have HP := hidO hp
    clear hr hp p0 p1 p2 p2'
    go_loopw [20] (fun i wr => ∃ (k : Nat) (a' : Option Addr) (c' : Nat), k ≤ p.terms.length ∧ i = .int .i64 k ∧ C3 wr w1.heap.size (.string p.cls) (.int .i64 (p.terms.length : Int)) (.slice a' (testsUpTo p.terms k).length c') ∧ wr.ownsRow (w1.heap.size + 1) 90 6 (.slice a' (testsUpTo p.terms k).length c') (testsUpTo p.terms k).length ((testsUpTo p.terms k).flatMap ttCells) ∧ Below w1.heap.size w1 wr) (fun i _ => p.terms.length - (intOf i).toNat)
    case atStart => exact ⟨0, none, 0, by omega, rfl, C3.made _ _ _ _ _, World.ownsRow_nil _ _ _ _, A1 _⟩
    case round =>
      obtain ⟨k, a', c', hk, rfl, hout, hown, hb⟩ := hrel
      have HO := hidO hown
      have HOUT := hidO hout
      clear hown
      have hol := hout.lt
      have hBw : Below w.heap.size w wr := hB1.trans (hb.mono hB1.size)
      have hrz := HR.out.belowB hb hlt
      have hpp := HP.out.belowB hb (by omega)
      by_cases hkl : k < p.terms.length
      · obtain ⟨t, htk⟩ : ∃ t, p.terms[k]? = some t := ⟨p.terms[k], by simp [hkl]⟩
        obtain ⟨b, o, ea, hq, c0, c1, c2, c3, c4, c5⟩ := (h_terms.below hBw).get htk
        subst ea
        have hgt := HGT.out k t htk
        have HTS := hidO (tests_succ htk)
        have htl := tests_len p.terms k
        have R2 : ∀ o o1, Below wr.heap.size wr ((wr.alloc o).alloc o1) := fun o o1 => ((Below.refl _ _).alloc (Nat.le_refl _) _).alloc (by simp) _
        have R1 : ∀ o, Below wr.heap.size wr (wr.alloc o) := fun o => (Below.refl _ _).alloc (Nat.le_refl _) _
        have hBD := hidO (fun w' h => bound_any p (some ⟨b, o, none⟩) c_terms (q := q) k t w' h htk hl hcp)
        have HTM := hidO (fun o => (h_terms.below hBw).below (R1 o))
        have hOP := hidO (fun w' => operator_any t w')
        have p0 : ∀ o, (wr.alloc o).cell? ⟨w.heap.size, 0, none⟩ = _ := fun o => cell_below (R1 o) hpp.1
        have p1 : ∀ o, (wr.alloc o).cell? ⟨w.heap.size, 1, none⟩ = _ := fun o => cell_below (R1 o) hpp.2.1
        have p2 : ∀ o, (wr.alloc o).cell? ⟨w.heap.size, 2, none⟩ = _ := fun o => cell_below (R1 o) hpp.2.2.1
        clear hrz hout hpp R2
        by_cases k0 : t.kind = 0
        · have HTN : Hid (testsUpTo p.terms (k + 1) = testsUpTo p.terms k) := show testsUpTo p.terms (k + 1) = _ from by rw [HTS.out]; simp [testOf, k0]
          rw [k0] at c0
          go_wp2_with (go_at_call 70; refine (hBD.out _ (HTM.out _)).mono ?_; rintro e w2 ⟨rfl, hb2⟩; have x0 : w2.cell? ⟨wr.heap.size, 0, none⟩ = some (.int .i64 0) := cell_below hb2 (by simp [go_sem]); have x1 : w2.cell? ⟨wr.heap.size, 1, none⟩ = some (.int .i64 t.op) := cell_below hb2 (by simp [go_sem]); have x2 : w2.cell? ⟨wr.heap.size, 2, none⟩ = some (.string t.var) := cell_below hb2 (by simp [go_sem]); have x3 : w2.cell? ⟨wr.heap.size, 3, none⟩ = some (.int .i64 t.val.kind) := cell_below hb2 (by simp [go_sem]); have x4 : w2.cell? ⟨wr.heap.size, 4, none⟩ = some (.int .i64 t.val.num) := cell_below hb2 (by simp [go_sem]); have x5 : w2.cell? ⟨wr.heap.size, 5, none⟩ = some (.string t.val.sym) := cell_below hb2 (by simp [go_sem]); have hR2 : Below wr.heap.size wr w2 := (R1 _).trans (hb2.mono (by simp)); have q2 := (HOUT.out.below hR2).2.2.1; have hsz2 := hR2.size)
          go_roundw
          case rel => exact ⟨k + 1, a', c', by omega, by go_num, by rw [HTN.out]; exact HOUT.out.below hR2, by rw [HTN.out]; exact ao_own HO.out hR2, hb.trans (hR2.mono hb.size)⟩
          case measure => simp [intOf]; omega
        · cases hve : t.var.toList.isEmpty
          · have HZV := hidO (gTm_zero hgt hve)
            cases hea : earlier p.terms k t.var with
            | none =>
              have HTN : Hid (testsUpTo p.terms (k + 1) = testsUpTo p.terms k) := show testsUpTo p.terms (k + 1) = _ from by rw [HTS.out]; simp [testOf, hve, hea]
              rw [hea] at hBD
              simp only [atI] at hBD
              go_wp2_with (go_at_call 70; refine (hBD.out _ (HTM.out _)).mono ?_; rintro e w2 ⟨rfl, hb2⟩; have x0 : w2.cell? ⟨wr.heap.size, 0, none⟩ = some (.int .i64 t.kind) := cell_below hb2 (by simp [go_sem]); have x1 : w2.cell? ⟨wr.heap.size, 1, none⟩ = some (.int .i64 t.op) := cell_below hb2 (by simp [go_sem]); have x2 : w2.cell? ⟨wr.heap.size, 2, none⟩ = some (.string t.var) := cell_below hb2 (by simp [go_sem]); have x3 : w2.cell? ⟨wr.heap.size, 3, none⟩ = some (.int .i64 t.val.kind) := cell_below hb2 (by simp [go_sem]); have x4 : w2.cell? ⟨wr.heap.size, 4, none⟩ = some (.int .i64 t.val.num) := cell_below hb2 (by simp [go_sem]); have x5 : w2.cell? ⟨wr.heap.size, 5, none⟩ = some (.string t.val.sym) := cell_below hb2 (by simp [go_sem]); have hR2 : Below wr.heap.size wr w2 := (R1 _).trans (hb2.mono (by simp)); have q2 := (HOUT.out.below hR2).2.2.1; have hsz2 := hR2.size)
              go_roundw
              case rel => exact ⟨k + 1, a', c', by omega, by go_num, by rw [HTN.out]; exact HOUT.out.below hR2, by rw [HTN.out]; exact ao_own HO.out hR2, hb.trans (hR2.mono hb.size)⟩
              case measure => simp [intOf]; omega
            | some e0 =>
              have HTN : Hid (testsUpTo p.terms (k + 1) = testsUpTo p.terms k ++ [⟨(k : Int), tmOp t, (e0 : Int), zVa⟩]) := show testsUpTo p.terms (k + 1) = _ from by rw [HTS.out]; simp [testOf, k0, hve, hea]
              rw [hea] at hBD
              simp only [atI] at hBD
              have e01 : ((e0 : Int) != -1) = true := by simp
              go_wp2_with (go_at_call 70; refine (hBD.out _ (HTM.out _)).mono ?_; rintro e w2 ⟨rfl, hb2⟩; have x0 : w2.cell? ⟨wr.heap.size, 0, none⟩ = some (.int .i64 t.kind) := cell_below hb2 (by simp [go_sem]); have x1 : w2.cell? ⟨wr.heap.size, 1, none⟩ = some (.int .i64 t.op) := cell_below hb2 (by simp [go_sem]); have x2 : w2.cell? ⟨wr.heap.size, 2, none⟩ = some (.string t.var) := cell_below hb2 (by simp [go_sem]); have x3 : w2.cell? ⟨wr.heap.size, 3, none⟩ = some (.int .i64 t.val.kind) := cell_below hb2 (by simp [go_sem]); have x4 : w2.cell? ⟨wr.heap.size, 4, none⟩ = some (.int .i64 t.val.num) := cell_below hb2 (by simp [go_sem]); have x5 : w2.cell? ⟨wr.heap.size, 5, none⟩ = some (.string t.val.sym) := cell_below hb2 (by simp [go_sem]); have hR2 : Below wr.heap.size wr w2 := (R1 _).trans (hb2.mono (by simp)); have q2 := (HOUT.out.below hR2).2.2.1; have hsz2 := hR2.size)
              clear c0 c1 c2 c3 c4 c5 p0 p1 p2 hb2 hBD HTM k0 hve hgt hq e01 hea
              refine wp_region_noPanic ?_
              refine wp_region_held_drew (S := (fun w' => w'.cell? ⟨wr.heap.size, 0, none⟩ = some (.int .i64 t.kind) ∧ w'.cell? ⟨wr.heap.size, 1, none⟩ = some (.int .i64 t.op) ∧ w'.cell? ⟨wr.heap.size, 2, none⟩ = some (.string t.var) ∧ w'.cell? ⟨wr.heap.size, 3, none⟩ = some (.int .i64 t.val.kind) ∧ w'.cell? ⟨wr.heap.size, 4, none⟩ = some (.int .i64 t.val.num) ∧ w'.cell? ⟨wr.heap.size, 5, none⟩ = some (.string t.val.sym))) (by kernel_rfl) ?_ (fun hHeld => ?_)
              · (try dsimp only)
                (go_split_ands; refine ⟨?_, ?_, ?_, ?_, ?_, ?_⟩ <;> first | (simp [*]; done))
              refine wpAnyH_take (i := 0) (oi := ?oi1) (v := ?v1) ?hi1 (by kernel_rfl) (by kernel_rfl) (by kernel_rfl) (fun _ _ _ h => h) (Or.inl ⟨?wd1, ?hy1⟩) hHeld ?rest1
              case hi1 => (simp only [List.getElem?_toArray, List.getElem?_cons_zero]; rfl)
              case wd1 => rfl
              case hy1 => (intro w hSw; (try dsimp only at hSw); go_simp; try with_reducible rfl)
              (try simp only [Act.put, List.setIfInBounds_toArray, List.set_cons_zero, List.set_cons_succ])
              refine wpAnyH_take (i := 2) (oi := ?oi2) (v := ?v2) ?hi2 (by kernel_rfl) (by kernel_rfl) (by kernel_rfl) (fun _ _ _ h => h) (Or.inl ⟨?wd2, ?hy2⟩) hHeld ?rest2
              case hi2 => (simp only [List.getElem?_toArray, List.getElem?_cons_succ, List.getElem?_cons_zero]; rfl)
              case wd2 => rfl
              case hy2 => (intro w hSw; (try dsimp only at hSw); go_simp; try with_reducible rfl)
              (try simp only [Act.put, List.setIfInBounds_toArray, List.set_cons_zero, List.set_cons_succ])
              refine wpAnyH_take (i := 3) (oi := ?oi3) (v := ?v3) ?hi3 (by kernel_rfl) (by kernel_rfl) (by kernel_rfl) (fun _ _ _ h => h) (Or.inl ⟨?wd3, ?hy3⟩) hHeld ?rest3
              case hi3 => (simp only [List.getElem?_toArray, List.getElem?_cons_succ, List.getElem?_cons_zero]; rfl)
              case wd3 => rfl
              case hy3 => (intro w hSw; (try dsimp only at hSw); go_simp; try with_reducible rfl)
              (try simp only [Act.put, List.setIfInBounds_toArray, List.set_cons_zero, List.set_cons_succ])
              refine wpAnyH_take (i := 5) (oi := ?oi4) (v := ?v4) ?hi4 (by kernel_rfl) (by kernel_rfl) (by kernel_rfl) (fun _ _ _ h => h) (Or.inl ⟨?wd4, ?hy4⟩) hHeld ?rest4
              case hi4 => (simp only [List.getElem?_toArray, List.getElem?_cons_succ, List.getElem?_cons_zero]; rfl)
              case wd4 => rfl
              case hy4 => (intro w hSw; (try dsimp only at hSw); go_simp; try with_reducible rfl)
              (try simp only [Act.put, List.setIfInBounds_toArray, List.set_cons_zero, List.set_cons_succ])
              refine wpAnyH_ready (rs := [1, 4]) (by kernel_rfl) (by simp) ?_
              refine AllReadyH.cons (o := ?o5) ?ho5 (fun K hK => ?step5) (AllReadyH.cons (o := ?o6) ?ho6 (fun K hK => ?step6) AllReadyH.nil)
              case ho5 => (simp only [List.getElem?_toArray, List.getElem?_cons_succ, List.getElem?_cons_zero]; rfl)
              case ho6 => (simp only [List.getElem?_toArray, List.getElem?_cons_succ, List.getElem?_cons_zero]; rfl)
              case step5 =>
                go_simp
                refine hK.out _ _ ?hS7 (fun hHeld' => ?rest7)
                case hS7 => ((try dsimp only); (go_split_ands; refine ⟨?_, ?_, ?_, ?_, ?_, ?_⟩ <;> first | (simp [*]; done)))
                clear hK K
                (try simp only [Act.put, List.setIfInBounds_toArray, List.set_cons_zero, List.set_cons_succ])
                clear hHeld
                have hHeld := hHeld'
                clear hHeld'
                refine wpAnyH_ready (rs := [4]) (by kernel_rfl) (by simp) ?_
                refine AllReadyH.cons (o := ?o8) ?ho8 (fun K hK => ?step8) AllReadyH.nil
                case ho8 => (simp only [List.getElem?_toArray, List.getElem?_cons_succ, List.getElem?_cons_zero]; rfl)
                go_simp
                (go_at_call 71; refine (hOP.out _).mono ?_; rintro e' w4 ⟨rfl, hb4⟩)
                (try go_wp2_with fail)
                refine hK.out _ _ ?hS9 (fun hHeld' => ?rest9)
                case hS9 => ((try dsimp only); (go_split_ands; refine ⟨?_, ?_, ?_, ?_, ?_, ?_⟩ <;> first | exact cell_below hb4 (by assumption)))
                clear hK K
                (try simp only [Act.put, List.setIfInBounds_toArray, List.set_cons_zero, List.set_cons_succ])
                clear hHeld
                have hHeld := hHeld'
                clear hHeld'
                have hR4 : Below wr.heap.size wr w4 := hR2.drew.trans (hb4.mono (by have := hR2.size; simp; omega))
                refine wpAnyH_take (i := 6) (oi := ?oi10) (v := ?v10) ?hi10 (by kernel_rfl) (by kernel_rfl) (by kernel_rfl) (fun _ _ _ h => h) (Or.inl ⟨?wd10, ?hy10⟩) hHeld ?rest10
                case hi10 => (simp only [List.getElem?_toArray, List.getElem?_cons_succ, List.getElem?_cons_zero]; rfl)
                case wd10 => rfl
                case hy10 => (intro w hSw; (try dsimp only at hSw); go_simp; try with_reducible rfl)
                (try simp only [Act.put, List.setIfInBounds_toArray, List.set_cons_zero, List.set_cons_succ])
                refine wpAnyH_ready (rs := [7]) (by kernel_rfl) (by simp) ?_
                refine AllReadyH.cons (o := ?o11) ?ho11 (fun K hK => ?step11) AllReadyH.nil
                case ho11 => (simp only [List.getElem?_toArray, List.getElem?_cons_succ, List.getElem?_cons_zero]; rfl)
                go_simp
                refine hK.out _ _ ?hS12 (fun hHeld' => ?rest12)
                case hS12 => ((try dsimp only); (go_split_ands; refine ⟨?_, ?_, ?_, ?_, ?_, ?_⟩ <;> first | (simp [go_sem, *]; done) | exact cell_below ((Below.refl _ _).alloc (Nat.le_refl _) _) (by assumption)))
                clear hK K
                (try simp only [Act.put, List.setIfInBounds_toArray, List.set_cons_zero, List.set_cons_succ])
                clear hHeld
                have hHeld := hHeld'
                clear hHeld'
                have hR5 := hR4.alloc (by have := hR4.size; omega) (.cells (ttCells ⟨(k : Int), tmOp t, (e0 : Int), zVa⟩).toArray 90)
                have hsz5 := hR5.size
                refine wpAnyH_ready (rs := [8]) (by kernel_rfl) (by simp) ?_
                refine AllReadyH.cons (o := ?o13) ?ho13 (fun K hK => ?step13) AllReadyH.nil
                case ho13 => (simp only [List.getElem?_toArray, List.getElem?_cons_succ, List.getElem?_cons_zero]; rfl)
                (refine step_append_any (by rfl) (.tmp 51) (.tmp 57) 52 (by rfl) (w1.heap.size + 1) 90 _ 6 56 Tryz.underlying52 infoTt' (by rfl) (by omega) _ (testsUpTo p.terms k).length _ (by rfl) (ao_own HO.out hR5) (some ⟨_, 0, none⟩) 1 1 (by rfl) (ttCells ⟨(k : Int), tmOp t, (e0 : Int), zVa⟩) (by rfl) (fun e => by cases e) (news_allocA _ _ _ _ (by rfl)) (ttCells_one _) (by unfold maxLen; omega) (by omega) (by simp at hsz5 ⊢; omega) ?_; intro a3 c3' w3 ho3 hg3 hl3; have hne3 : (Value.slice a' (testsUpTo p.terms k).length c').ownBlock ≠ some wr.heap.size := (fun e => by have := (HO.out.lt _ e).2; omega); have hW3 : Below (w1.heap.size + 1) wr w3 := ((hR5.mono (by omega)).grown hg3.out (by simp at hsz5 ⊢; omega) (fun g hg => (HO.out.lt g hg).1)); obtain ⟨_, _, m2, _, _, n2⟩ := HOUT.out.belowB hW3 (by omega))
                refine hK.out _ _ ?hS14 (fun hHeld' => ?rest14)
                case hS14 => ((try dsimp only); (go_split_ands; refine ⟨?_, ?_, ?_, ?_, ?_, ?_⟩ <;> first | exact (cell_grownO hg3.out hne3 (by have := hR4.size; simp; omega)).trans (by assumption)))
                clear hK K
                (try simp only [Act.put, List.setIfInBounds_toArray, List.set_cons_zero, List.set_cons_succ])
                clear hHeld
                have hHeld := hHeld'
                clear hHeld'
                refine wpAnyH_take (i := 9) (oi := ?oi15) (v := ?v15) ?hi15 (by kernel_rfl) (by kernel_rfl) (by kernel_rfl) (fun _ _ _ h => h) (Or.inl ⟨?wd15, ?hy15⟩) hHeld ?rest15
                case hi15 => (simp only [List.getElem?_toArray, List.getElem?_cons_succ, List.getElem?_cons_zero]; rfl)
                case wd15 => rfl
                case hy15 => (intro w hSw; (try dsimp only at hSw); go_simp; try with_reducible rfl)
                (try simp only [Act.put, List.setIfInBounds_toArray, List.set_cons_zero, List.set_cons_succ])
                refine wpAnyH_ready (rs := [10]) (by kernel_rfl) (by simp) ?_
                refine AllReadyH.cons (o := ?o16) ?ho16 (fun K hK => ?step16) AllReadyH.nil
                case ho16 => (simp only [List.getElem?_toArray, List.getElem?_cons_succ, List.getElem?_cons_zero]; rfl)
                go_simp
                refine hK.out _ _ ?hS17 (fun hHeld' => ?rest17)
                case hS17 => ((try dsimp only); (go_split_ands; refine ⟨?_, ?_, ?_, ?_, ?_, ?_⟩ <;> first | (simp [go_sem, *]; done)))
                clear hK K
                (try simp only [Act.put, List.setIfInBounds_toArray, List.set_cons_zero, List.set_cons_succ])
                clear hHeld
                have hHeld := hHeld'
                clear hHeld'
                refine wpAnyH_done (by kernel_rfl) ?_ _
                refine NoPanic.normal ?_
                have ho3' : w3.ownsRow (w1.heap.size + 1) 90 6 (.slice a3 (testsUpTo p.terms (k + 1)).length c3') (testsUpTo p.terms (k + 1)).length ((testsUpTo p.terms (k + 1)).flatMap ttCells) := by
                  have := ho3.out
                  rw [HTN.out, List.flatMap_append]
                  simpa [ttCells] using this
                have hlen : (testsUpTo p.terms (k + 1)).length = (testsUpTo p.terms k).length + 1 := by rw [HTN.out]; simp
                obtain ⟨u1, u2, u3⟩ := ao_put HOUT.out hW3 ho3' hb
                rw [hlen] at u1 u2 u3
                go_wp2
                go_roundw
                case rel => exact ⟨k + 1, a3, c3', by omega, by go_num, by rw [hlen]; exact u1, by rw [hlen]; exact u2, u3⟩
                case measure => simp [intOf]; omega
              case step6 =>
                go_simp
                (go_at_call 71; refine (hOP.out _).mono ?_; rintro e' w4 ⟨rfl, hb4⟩)
                (try go_wp2_with fail)
                refine hK.out _ _ ?hS18 (fun hHeld' => ?rest18)
                case hS18 => ((try dsimp only); (go_split_ands; refine ⟨?_, ?_, ?_, ?_, ?_, ?_⟩ <;> first | exact cell_below hb4 (by assumption)))
                clear hK K
                (try simp only [Act.put, List.setIfInBounds_toArray, List.set_cons_zero, List.set_cons_succ])
                clear hHeld
                have hHeld := hHeld'
                clear hHeld'
                have hR4 : Below wr.heap.size wr w4 := hR2.drew.trans (hb4.mono (by have := hR2.size; simp; omega))
                have q4 := cell_below hb4 (show w2.drew.cell? ⟨w1.heap.size, 2, none⟩ = _ from q2)
                have q5 : ∀ o, (w4.alloc o).cell? ⟨w1.heap.size, 2, none⟩ = _ := fun o => cell_below ((Below.refl _ _).alloc (Nat.le_refl _) _) q4
                refine wpAnyH_take (i := 6) (oi := ?oi19) (v := ?v19) ?hi19 (by kernel_rfl) (by kernel_rfl) (by kernel_rfl) (fun _ _ _ h => h) (Or.inl ⟨?wd19, ?hy19⟩) hHeld ?rest19
                case hi19 => (simp only [List.getElem?_toArray, List.getElem?_cons_succ, List.getElem?_cons_zero]; rfl)
                case wd19 => rfl
                case hy19 => (intro w hSw; (try dsimp only at hSw); go_simp; try with_reducible rfl)
                (try simp only [Act.put, List.setIfInBounds_toArray, List.set_cons_zero, List.set_cons_succ])
                refine wpAnyH_ready (rs := [1, 7]) (by kernel_rfl) (by simp) ?_
                refine AllReadyH.cons (o := ?o20) ?ho20 (fun K hK => ?step20) (AllReadyH.cons (o := ?o21) ?ho21 (fun K hK => ?step21) AllReadyH.nil)
                case ho20 => (simp only [List.getElem?_toArray, List.getElem?_cons_succ, List.getElem?_cons_zero]; rfl)
                case ho21 => (simp only [List.getElem?_toArray, List.getElem?_cons_succ, List.getElem?_cons_zero]; rfl)
                case step20 =>
                  go_simp
                  refine hK.out _ _ ?hS22 (fun hHeld' => ?rest22)
                  case hS22 => ((try dsimp only); (go_split_ands; refine ⟨?_, ?_, ?_, ?_, ?_, ?_⟩ <;> first | assumption | exact cell_below hb4 (by assumption)))
                  clear hK K
                  (try simp only [Act.put, List.setIfInBounds_toArray, List.set_cons_zero, List.set_cons_succ])
                  clear hHeld
                  have hHeld := hHeld'
                  clear hHeld'
                  refine wpAnyH_ready (rs := [7]) (by kernel_rfl) (by simp) ?_
                  refine AllReadyH.cons (o := ?o23) ?ho23 (fun K hK => ?step23) AllReadyH.nil
                  case ho23 => (simp only [List.getElem?_toArray, List.getElem?_cons_succ, List.getElem?_cons_zero]; rfl)
                  go_simp
                  refine hK.out _ _ ?hS24 (fun hHeld' => ?rest24)
                  case hS24 => ((try dsimp only); (go_split_ands; refine ⟨?_, ?_, ?_, ?_, ?_, ?_⟩ <;> first | (simp [go_sem, *]; done) | exact cell_below ((Below.refl _ _).alloc (Nat.le_refl _) _) (by assumption)))
                  clear hK K
                  (try simp only [Act.put, List.setIfInBounds_toArray, List.set_cons_zero, List.set_cons_succ])
                  clear hHeld
                  have hHeld := hHeld'
                  clear hHeld'
                  have hR5 := hR4.alloc (by have := hR4.size; omega) (.cells (ttCells ⟨(k : Int), tmOp t, (e0 : Int), zVa⟩).toArray 90)
                  have hsz5 := hR5.size
                  refine wpAnyH_ready (rs := [8]) (by kernel_rfl) (by simp) ?_
                  refine AllReadyH.cons (o := ?o25) ?ho25 (fun K hK => ?step25) AllReadyH.nil
                  case ho25 => (simp only [List.getElem?_toArray, List.getElem?_cons_succ, List.getElem?_cons_zero]; rfl)
                  (refine step_append_any (by rfl) (.tmp 51) (.tmp 57) 52 (by rfl) (w1.heap.size + 1) 90 _ 6 56 Tryz.underlying52 infoTt' (by rfl) (by omega) _ (testsUpTo p.terms k).length _ (by rfl) (ao_own HO.out hR5) (some ⟨_, 0, none⟩) 1 1 (by rfl) (ttCells ⟨(k : Int), tmOp t, (e0 : Int), zVa⟩) (by rfl) (fun e => by cases e) (news_allocA _ _ _ _ (by rfl)) (ttCells_one _) (by unfold maxLen; omega) (by omega) (by simp at hsz5 ⊢; omega) ?_; intro a3 c3' w3 ho3 hg3 hl3; have hne3 : (Value.slice a' (testsUpTo p.terms k).length c').ownBlock ≠ some wr.heap.size := (fun e => by have := (HO.out.lt _ e).2; omega); have hW3 : Below (w1.heap.size + 1) wr w3 := ((hR5.mono (by omega)).grown hg3.out (by simp at hsz5 ⊢; omega) (fun g hg => (HO.out.lt g hg).1)); obtain ⟨_, _, m2, _, _, n2⟩ := HOUT.out.belowB hW3 (by omega))
                  refine hK.out _ _ ?hS26 (fun hHeld' => ?rest26)
                  case hS26 => ((try dsimp only); (go_split_ands; refine ⟨?_, ?_, ?_, ?_, ?_, ?_⟩ <;> first | exact (cell_grownO hg3.out hne3 (by have := hR4.size; simp; omega)).trans (by assumption)))
                  clear hK K
                  (try simp only [Act.put, List.setIfInBounds_toArray, List.set_cons_zero, List.set_cons_succ])
                  clear hHeld
                  have hHeld := hHeld'
                  clear hHeld'
                  refine wpAnyH_take (i := 9) (oi := ?oi27) (v := ?v27) ?hi27 (by kernel_rfl) (by kernel_rfl) (by kernel_rfl) (fun _ _ _ h => h) (Or.inl ⟨?wd27, ?hy27⟩) hHeld ?rest27
                  case hi27 => (simp only [List.getElem?_toArray, List.getElem?_cons_succ, List.getElem?_cons_zero]; rfl)
                  case wd27 => rfl
                  case hy27 => (intro w hSw; (try dsimp only at hSw); go_simp; try with_reducible rfl)
                  (try simp only [Act.put, List.setIfInBounds_toArray, List.set_cons_zero, List.set_cons_succ])
                  refine wpAnyH_ready (rs := [10]) (by kernel_rfl) (by simp) ?_
                  refine AllReadyH.cons (o := ?o28) ?ho28 (fun K hK => ?step28) AllReadyH.nil
                  case ho28 => (simp only [List.getElem?_toArray, List.getElem?_cons_succ, List.getElem?_cons_zero]; rfl)
                  go_simp
                  refine hK.out _ _ ?hS29 (fun hHeld' => ?rest29)
                  case hS29 => ((try dsimp only); (go_split_ands; refine ⟨?_, ?_, ?_, ?_, ?_, ?_⟩ <;> first | (simp [go_sem, *]; done)))
                  clear hK K
                  (try simp only [Act.put, List.setIfInBounds_toArray, List.set_cons_zero, List.set_cons_succ])
                  clear hHeld
                  have hHeld := hHeld'
                  clear hHeld'
                  refine wpAnyH_done (by kernel_rfl) ?_ _
                  refine NoPanic.normal ?_
                  have ho3' : w3.ownsRow (w1.heap.size + 1) 90 6 (.slice a3 (testsUpTo p.terms (k + 1)).length c3') (testsUpTo p.terms (k + 1)).length ((testsUpTo p.terms (k + 1)).flatMap ttCells) := by
                    have := ho3.out
                    rw [HTN.out, List.flatMap_append]
                    simpa [ttCells] using this
                  have hlen : (testsUpTo p.terms (k + 1)).length = (testsUpTo p.terms k).length + 1 := by rw [HTN.out]; simp
                  obtain ⟨u1, u2, u3⟩ := ao_put HOUT.out hW3 ho3' hb
                  rw [hlen] at u1 u2 u3
                  go_wp2
                  go_roundw
                  case rel => exact ⟨k + 1, a3, c3', by omega, by go_num, by rw [hlen]; exact u1, by rw [hlen]; exact u2, u3⟩
                  case measure => simp [intOf]; omega
                case step21 =>
                  go_simp
                  refine hK.out _ _ ?hS30 (fun hHeld' => ?rest30)
                  case hS30 => ((try dsimp only); (go_split_ands; refine ⟨?_, ?_, ?_, ?_, ?_, ?_⟩ <;> first | (simp [go_sem, *]; done) | exact cell_below ((Below.refl _ _).alloc (Nat.le_refl _) _) (by assumption)))
                  clear hK K
                  (try simp only [Act.put, List.setIfInBounds_toArray, List.set_cons_zero, List.set_cons_succ])
                  clear hHeld
                  have hHeld := hHeld'
                  clear hHeld'
                  refine wpAnyH_ready (rs := [1]) (by kernel_rfl) (by simp) ?_
                  refine AllReadyH.cons (o := ?o31) ?ho31 (fun K hK => ?step31) AllReadyH.nil
                  case ho31 => (simp only [List.getElem?_toArray, List.getElem?_cons_succ, List.getElem?_cons_zero]; rfl)
                  go_simp
                  refine hK.out _ _ ?hS32 (fun hHeld' => ?rest32)
                  case hS32 => ((try dsimp only); (go_split_ands; refine ⟨?_, ?_, ?_, ?_, ?_, ?_⟩ <;> first | assumption))
                  clear hK K
                  (try simp only [Act.put, List.setIfInBounds_toArray, List.set_cons_zero, List.set_cons_succ])
                  clear hHeld
                  have hHeld := hHeld'
                  clear hHeld'
                  have hR5 := hR4.alloc (by have := hR4.size; omega) (.cells (ttCells ⟨(k : Int), tmOp t, (e0 : Int), zVa⟩).toArray 90)
                  have hsz5 := hR5.size
                  refine wpAnyH_ready (rs := [8]) (by kernel_rfl) (by simp) ?_
                  refine AllReadyH.cons (o := ?o33) ?ho33 (fun K hK => ?step33) AllReadyH.nil
                  case ho33 => (simp only [List.getElem?_toArray, List.getElem?_cons_succ, List.getElem?_cons_zero]; rfl)
                  (refine step_append_any (by rfl) (.tmp 51) (.tmp 57) 52 (by rfl) (w1.heap.size + 1) 90 _ 6 56 Tryz.underlying52 infoTt' (by rfl) (by omega) _ (testsUpTo p.terms k).length _ (by rfl) (ao_own HO.out hR5) (some ⟨_, 0, none⟩) 1 1 (by rfl) (ttCells ⟨(k : Int), tmOp t, (e0 : Int), zVa⟩) (by rfl) (fun e => by cases e) (news_allocA _ _ _ _ (by rfl)) (ttCells_one _) (by unfold maxLen; omega) (by omega) (by simp at hsz5 ⊢; omega) ?_; intro a3 c3' w3 ho3 hg3 hl3; have hne3 : (Value.slice a' (testsUpTo p.terms k).length c').ownBlock ≠ some wr.heap.size := (fun e => by have := (HO.out.lt _ e).2; omega); have hW3 : Below (w1.heap.size + 1) wr w3 := ((hR5.mono (by omega)).grown hg3.out (by simp at hsz5 ⊢; omega) (fun g hg => (HO.out.lt g hg).1)); obtain ⟨_, _, m2, _, _, n2⟩ := HOUT.out.belowB hW3 (by omega))
                  refine hK.out _ _ ?hS34 (fun hHeld' => ?rest34)
                  case hS34 => ((try dsimp only); (go_split_ands; refine ⟨?_, ?_, ?_, ?_, ?_, ?_⟩ <;> first | exact (cell_grownO hg3.out hne3 (by have := hR4.size; simp; omega)).trans (by assumption)))
                  clear hK K
                  (try simp only [Act.put, List.setIfInBounds_toArray, List.set_cons_zero, List.set_cons_succ])
                  clear hHeld
                  have hHeld := hHeld'
                  clear hHeld'
                  refine wpAnyH_take (i := 9) (oi := ?oi35) (v := ?v35) ?hi35 (by kernel_rfl) (by kernel_rfl) (by kernel_rfl) (fun _ _ _ h => h) (Or.inl ⟨?wd35, ?hy35⟩) hHeld ?rest35
                  case hi35 => (simp only [List.getElem?_toArray, List.getElem?_cons_succ, List.getElem?_cons_zero]; rfl)
                  case wd35 => rfl
                  case hy35 => (intro w hSw; (try dsimp only at hSw); go_simp; try with_reducible rfl)
                  (try simp only [Act.put, List.setIfInBounds_toArray, List.set_cons_zero, List.set_cons_succ])
                  refine wpAnyH_ready (rs := [10]) (by kernel_rfl) (by simp) ?_
                  refine AllReadyH.cons (o := ?o36) ?ho36 (fun K hK => ?step36) AllReadyH.nil
                  case ho36 => (simp only [List.getElem?_toArray, List.getElem?_cons_succ, List.getElem?_cons_zero]; rfl)
                  go_simp
                  refine hK.out _ _ ?hS37 (fun hHeld' => ?rest37)
                  case hS37 => ((try dsimp only); (go_split_ands; refine ⟨?_, ?_, ?_, ?_, ?_, ?_⟩ <;> first | (simp [go_sem, *]; done)))
                  clear hK K
                  (try simp only [Act.put, List.setIfInBounds_toArray, List.set_cons_zero, List.set_cons_succ])
                  clear hHeld
                  have hHeld := hHeld'
                  clear hHeld'
                  refine wpAnyH_done (by kernel_rfl) ?_ _
                  refine NoPanic.normal ?_
                  have ho3' : w3.ownsRow (w1.heap.size + 1) 90 6 (.slice a3 (testsUpTo p.terms (k + 1)).length c3') (testsUpTo p.terms (k + 1)).length ((testsUpTo p.terms (k + 1)).flatMap ttCells) := by
                    have := ho3.out
                    rw [HTN.out, List.flatMap_append]
                    simpa [ttCells] using this
                  have hlen : (testsUpTo p.terms (k + 1)).length = (testsUpTo p.terms k).length + 1 := by rw [HTN.out]; simp
                  obtain ⟨u1, u2, u3⟩ := ao_put HOUT.out hW3 ho3' hb
                  rw [hlen] at u1 u2 u3
                  go_wp2
                  go_roundw
                  case rel => exact ⟨k + 1, a3, c3', by omega, by go_num, by rw [hlen]; exact u1, by rw [hlen]; exact u2, u3⟩
                  case measure => simp [intOf]; omega
          · have HTN : Hid (testsUpTo p.terms (k + 1) = testsUpTo p.terms k ++ [⟨(k : Int), tmOp t, -1, t.val⟩]) := show testsUpTo p.terms (k + 1) = _ from by rw [HTS.out]; simp [testOf, k0, hve]
            go_wp2_with (go_at_call 70; refine (hBD.out _ (HTM.out _)).mono ?_; rintro e w2 ⟨rfl, hb2⟩; have x0 : w2.cell? ⟨wr.heap.size, 0, none⟩ = some (.int .i64 t.kind) := cell_below hb2 (by simp [go_sem]); have x1 : w2.cell? ⟨wr.heap.size, 1, none⟩ = some (.int .i64 t.op) := cell_below hb2 (by simp [go_sem]); have x2 : w2.cell? ⟨wr.heap.size, 2, none⟩ = some (.string t.var) := cell_below hb2 (by simp [go_sem]); have x3 : w2.cell? ⟨wr.heap.size, 3, none⟩ = some (.int .i64 t.val.kind) := cell_below hb2 (by simp [go_sem]); have x4 : w2.cell? ⟨wr.heap.size, 4, none⟩ = some (.int .i64 t.val.num) := cell_below hb2 (by simp [go_sem]); have x5 : w2.cell? ⟨wr.heap.size, 5, none⟩ = some (.string t.val.sym) := cell_below hb2 (by simp [go_sem]); have hR2 : Below wr.heap.size wr w2 := (R1 _).trans (hb2.mono (by simp)); have q2 := (HOUT.out.below hR2).2.2.1; have hsz2 := hR2.size)
            clear c0 c1 c2 c3 c4 c5 p0 p1 p2 hb2 hBD HTM k0 hve hgt hq
            refine wp_region_noPanic ?_
            refine wp_region_held_drew (S := (fun w' => w'.cell? ⟨wr.heap.size, 0, none⟩ = some (.int .i64 t.kind) ∧ w'.cell? ⟨wr.heap.size, 1, none⟩ = some (.int .i64 t.op) ∧ w'.cell? ⟨wr.heap.size, 2, none⟩ = some (.string t.var) ∧ w'.cell? ⟨wr.heap.size, 3, none⟩ = some (.int .i64 t.val.kind) ∧ w'.cell? ⟨wr.heap.size, 4, none⟩ = some (.int .i64 t.val.num) ∧ w'.cell? ⟨wr.heap.size, 5, none⟩ = some (.string t.val.sym))) (by kernel_rfl) ?_ (fun hHeld => ?_)
            · (try dsimp only)
              (go_split_ands; refine ⟨?_, ?_, ?_, ?_, ?_, ?_⟩ <;> first | (simp [*]; done))
            refine wpAnyH_take (i := 0) (oi := ?oi38) (v := ?v38) ?hi38 (by kernel_rfl) (by kernel_rfl) (by kernel_rfl) (fun _ _ _ h => h) (Or.inl ⟨?wd38, ?hy38⟩) hHeld ?rest38
            case hi38 => (simp only [List.getElem?_toArray, List.getElem?_cons_zero]; rfl)
            case wd38 => rfl
            case hy38 => (intro w hSw; (try dsimp only at hSw); go_simp; try with_reducible rfl)
            (try simp only [Act.put, List.setIfInBounds_toArray, List.set_cons_zero, List.set_cons_succ])
            refine wpAnyH_take (i := 2) (oi := ?oi39) (v := ?v39) ?hi39 (by kernel_rfl) (by kernel_rfl) (by kernel_rfl) (fun _ _ _ h => h) (Or.inl ⟨?wd39, ?hy39⟩) hHeld ?rest39
            case hi39 => (simp only [List.getElem?_toArray, List.getElem?_cons_succ, List.getElem?_cons_zero]; rfl)
            case wd39 => rfl
            case hy39 => (intro w hSw; (try dsimp only at hSw); go_simp; try with_reducible rfl)
            (try simp only [Act.put, List.setIfInBounds_toArray, List.set_cons_zero, List.set_cons_succ])
            refine wpAnyH_take (i := 3) (oi := ?oi40) (v := ?v40) ?hi40 (by kernel_rfl) (by kernel_rfl) (by kernel_rfl) (fun _ _ _ h => h) (Or.inl ⟨?wd40, ?hy40⟩) hHeld ?rest40
            case hi40 => (simp only [List.getElem?_toArray, List.getElem?_cons_succ, List.getElem?_cons_zero]; rfl)
            case wd40 => rfl
            case hy40 => (intro w hSw; (try dsimp only at hSw); go_simp; try with_reducible rfl)
            (try simp only [Act.put, List.setIfInBounds_toArray, List.set_cons_zero, List.set_cons_succ])
            refine wpAnyH_take (i := 5) (oi := ?oi41) (v := ?v41) ?hi41 (by kernel_rfl) (by kernel_rfl) (by kernel_rfl) (fun _ _ _ h => h) (Or.inl ⟨?wd41, ?hy41⟩) hHeld ?rest41
            case hi41 => (simp only [List.getElem?_toArray, List.getElem?_cons_succ, List.getElem?_cons_zero]; rfl)
            case wd41 => rfl
            case hy41 => (intro w hSw; (try dsimp only at hSw); go_simp; try with_reducible rfl)
            (try simp only [Act.put, List.setIfInBounds_toArray, List.set_cons_zero, List.set_cons_succ])
            refine wpAnyH_take (i := 6) (oi := ?oi42) (v := ?v42) ?hi42 (by kernel_rfl) (by kernel_rfl) (by kernel_rfl) (fun _ _ _ h => h) (Or.inl ⟨?wd42, ?hy42⟩) hHeld ?rest42
            case hi42 => (simp only [List.getElem?_toArray, List.getElem?_cons_succ, List.getElem?_cons_zero]; rfl)
            case wd42 => rfl
            case hy42 => (intro w hSw; (try dsimp only at hSw); go_simp; try with_reducible rfl)
            (try simp only [Act.put, List.setIfInBounds_toArray, List.set_cons_zero, List.set_cons_succ])
            refine wpAnyH_ready (rs := [1, 4]) (by kernel_rfl) (by simp) ?_
            refine AllReadyH.cons (o := ?o43) ?ho43 (fun K hK => ?step43) (AllReadyH.cons (o := ?o44) ?ho44 (fun K hK => ?step44) AllReadyH.nil)
            case ho43 => (simp only [List.getElem?_toArray, List.getElem?_cons_succ, List.getElem?_cons_zero]; rfl)
            case ho44 => (simp only [List.getElem?_toArray, List.getElem?_cons_succ, List.getElem?_cons_zero]; rfl)
            case step43 =>
              go_simp
              refine hK.out _ _ ?hS45 (fun hHeld' => ?rest45)
              case hS45 => ((try dsimp only); (go_split_ands; refine ⟨?_, ?_, ?_, ?_, ?_, ?_⟩ <;> first | (simp [*]; done)))
              clear hK K
              (try simp only [Act.put, List.setIfInBounds_toArray, List.set_cons_zero, List.set_cons_succ])
              clear hHeld
              have hHeld := hHeld'
              clear hHeld'
              refine wpAnyH_ready (rs := [4]) (by kernel_rfl) (by simp) ?_
              refine AllReadyH.cons (o := ?o46) ?ho46 (fun K hK => ?step46) AllReadyH.nil
              case ho46 => (simp only [List.getElem?_toArray, List.getElem?_cons_succ, List.getElem?_cons_zero]; rfl)
              go_simp
              (go_at_call 71; refine (hOP.out _).mono ?_; rintro e' w4 ⟨rfl, hb4⟩)
              (try go_wp2_with fail)
              refine hK.out _ _ ?hS47 (fun hHeld' => ?rest47)
              case hS47 => ((try dsimp only); (go_split_ands; refine ⟨?_, ?_, ?_, ?_, ?_, ?_⟩ <;> first | exact cell_below hb4 (by assumption)))
              clear hK K
              (try simp only [Act.put, List.setIfInBounds_toArray, List.set_cons_zero, List.set_cons_succ])
              clear hHeld
              have hHeld := hHeld'
              clear hHeld'
              have hR4 : Below wr.heap.size wr w4 := hR2.drew.trans (hb4.mono (by have := hR2.size; simp; omega))
              refine wpAnyH_take (i := 7) (oi := ?oi48) (v := ?v48) ?hi48 (by kernel_rfl) (by kernel_rfl) (by kernel_rfl) (fun _ _ _ h => h) (Or.inl ⟨?wd48, ?hy48⟩) hHeld ?rest48
              case hi48 => (simp only [List.getElem?_toArray, List.getElem?_cons_succ, List.getElem?_cons_zero]; rfl)
              case wd48 => rfl
              case hy48 => (intro w hSw; (try dsimp only at hSw); go_simp; try with_reducible rfl)
              (try simp only [Act.put, List.setIfInBounds_toArray, List.set_cons_zero, List.set_cons_succ])
              refine wpAnyH_ready (rs := [8]) (by kernel_rfl) (by simp) ?_
              refine AllReadyH.cons (o := ?o49) ?ho49 (fun K hK => ?step49) AllReadyH.nil
              case ho49 => (simp only [List.getElem?_toArray, List.getElem?_cons_succ, List.getElem?_cons_zero]; rfl)
              go_simp
              refine hK.out _ _ ?hS50 (fun hHeld' => ?rest50)
              case hS50 => ((try dsimp only); (go_split_ands; refine ⟨?_, ?_, ?_, ?_, ?_, ?_⟩ <;> first | (simp [go_sem, *]; done) | exact cell_below ((Below.refl _ _).alloc (Nat.le_refl _) _) (by assumption)))
              clear hK K
              (try simp only [Act.put, List.setIfInBounds_toArray, List.set_cons_zero, List.set_cons_succ])
              clear hHeld
              have hHeld := hHeld'
              clear hHeld'
              have hR5 := hR4.alloc (by have := hR4.size; omega) (.cells (ttCells ⟨(k : Int), tmOp t, -1, t.val⟩).toArray 90)
              have hsz5 := hR5.size
              refine wpAnyH_ready (rs := [9]) (by kernel_rfl) (by simp) ?_
              refine AllReadyH.cons (o := ?o51) ?ho51 (fun K hK => ?step51) AllReadyH.nil
              case ho51 => (simp only [List.getElem?_toArray, List.getElem?_cons_succ, List.getElem?_cons_zero]; rfl)
              (refine step_append_any (by rfl) (.tmp 37) (.tmp 44) 52 (by rfl) (w1.heap.size + 1) 90 _ 6 56 Tryz.underlying52 infoTt' (by rfl) (by omega) _ (testsUpTo p.terms k).length _ (by rfl) (ao_own HO.out hR5) (some ⟨_, 0, none⟩) 1 1 (by rfl) (ttCells ⟨(k : Int), tmOp t, -1, t.val⟩) (by rfl) (fun e => by cases e) (news_allocA _ _ _ _ (by rfl)) (ttCells_one _) (by unfold maxLen; omega) (by omega) (by simp at hsz5 ⊢; omega) ?_; intro a3 c3' w3 ho3 hg3 hl3; have hne3 : (Value.slice a' (testsUpTo p.terms k).length c').ownBlock ≠ some wr.heap.size := (fun e => by have := (HO.out.lt _ e).2; omega); have hW3 : Below (w1.heap.size + 1) wr w3 := ((hR5.mono (by omega)).grown hg3.out (by simp at hsz5 ⊢; omega) (fun g hg => (HO.out.lt g hg).1)); obtain ⟨_, _, m2, _, _, n2⟩ := HOUT.out.belowB hW3 (by omega))
              refine hK.out _ _ ?hS52 (fun hHeld' => ?rest52)
              case hS52 => ((try dsimp only); (go_split_ands; refine ⟨?_, ?_, ?_, ?_, ?_, ?_⟩ <;> first | exact (cell_grownO hg3.out hne3 (by have := hR4.size; simp; omega)).trans (by assumption)))
              clear hK K
              (try simp only [Act.put, List.setIfInBounds_toArray, List.set_cons_zero, List.set_cons_succ])
              clear hHeld
              have hHeld := hHeld'
              clear hHeld'
              refine wpAnyH_take (i := 10) (oi := ?oi53) (v := ?v53) ?hi53 (by kernel_rfl) (by kernel_rfl) (by kernel_rfl) (fun _ _ _ h => h) (Or.inl ⟨?wd53, ?hy53⟩) hHeld ?rest53
              case hi53 => (simp only [List.getElem?_toArray, List.getElem?_cons_succ, List.getElem?_cons_zero]; rfl)
              case wd53 => rfl
              case hy53 => (intro w hSw; (try dsimp only at hSw); go_simp; try with_reducible rfl)
              (try simp only [Act.put, List.setIfInBounds_toArray, List.set_cons_zero, List.set_cons_succ])
              refine wpAnyH_ready (rs := [11]) (by kernel_rfl) (by simp) ?_
              refine AllReadyH.cons (o := ?o54) ?ho54 (fun K hK => ?step54) AllReadyH.nil
              case ho54 => (simp only [List.getElem?_toArray, List.getElem?_cons_succ, List.getElem?_cons_zero]; rfl)
              go_simp
              refine hK.out _ _ ?hS55 (fun hHeld' => ?rest55)
              case hS55 => ((try dsimp only); (go_split_ands; refine ⟨?_, ?_, ?_, ?_, ?_, ?_⟩ <;> first | (simp [go_sem, *]; done)))
              clear hK K
              (try simp only [Act.put, List.setIfInBounds_toArray, List.set_cons_zero, List.set_cons_succ])
              clear hHeld
              have hHeld := hHeld'
              clear hHeld'
              refine wpAnyH_done (by kernel_rfl) ?_ _
              refine NoPanic.normal ?_
              have ho3' : w3.ownsRow (w1.heap.size + 1) 90 6 (.slice a3 (testsUpTo p.terms (k + 1)).length c3') (testsUpTo p.terms (k + 1)).length ((testsUpTo p.terms (k + 1)).flatMap ttCells) := by
                have := ho3.out
                rw [HTN.out, List.flatMap_append]
                simpa [ttCells] using this
              have hlen : (testsUpTo p.terms (k + 1)).length = (testsUpTo p.terms k).length + 1 := by rw [HTN.out]; simp
              obtain ⟨u1, u2, u3⟩ := ao_put HOUT.out hW3 ho3' hb
              rw [hlen] at u1 u2 u3
              go_wp2
              go_roundw
              case rel => exact ⟨k + 1, a3, c3', by omega, by go_num, by rw [hlen]; exact u1, by rw [hlen]; exact u2, u3⟩
              case measure => simp [intOf]; omega
            case step44 =>
              go_simp
              (go_at_call 71; refine (hOP.out _).mono ?_; rintro e' w4 ⟨rfl, hb4⟩)
              (try go_wp2_with fail)
              refine hK.out _ _ ?hS56 (fun hHeld' => ?rest56)
              case hS56 => ((try dsimp only); (go_split_ands; refine ⟨?_, ?_, ?_, ?_, ?_, ?_⟩ <;> first | exact cell_below hb4 (by assumption)))
              clear hK K
              (try simp only [Act.put, List.setIfInBounds_toArray, List.set_cons_zero, List.set_cons_succ])
              clear hHeld
              have hHeld := hHeld'
              clear hHeld'
              have hR4 : Below wr.heap.size wr w4 := hR2.drew.trans (hb4.mono (by have := hR2.size; simp; omega))
              have q4 := cell_below hb4 (show w2.drew.cell? ⟨w1.heap.size, 2, none⟩ = _ from q2)
              have q5 : ∀ o, (w4.alloc o).cell? ⟨w1.heap.size, 2, none⟩ = _ := fun o => cell_below ((Below.refl _ _).alloc (Nat.le_refl _) _) q4
              refine wpAnyH_take (i := 7) (oi := ?oi57) (v := ?v57) ?hi57 (by kernel_rfl) (by kernel_rfl) (by kernel_rfl) (fun _ _ _ h => h) (Or.inl ⟨?wd57, ?hy57⟩) hHeld ?rest57
              case hi57 => (simp only [List.getElem?_toArray, List.getElem?_cons_succ, List.getElem?_cons_zero]; rfl)
              case wd57 => rfl
              case hy57 => (intro w hSw; (try dsimp only at hSw); go_simp; try with_reducible rfl)
              (try simp only [Act.put, List.setIfInBounds_toArray, List.set_cons_zero, List.set_cons_succ])
              refine wpAnyH_ready (rs := [1, 8]) (by kernel_rfl) (by simp) ?_
              refine AllReadyH.cons (o := ?o58) ?ho58 (fun K hK => ?step58) (AllReadyH.cons (o := ?o59) ?ho59 (fun K hK => ?step59) AllReadyH.nil)
              case ho58 => (simp only [List.getElem?_toArray, List.getElem?_cons_succ, List.getElem?_cons_zero]; rfl)
              case ho59 => (simp only [List.getElem?_toArray, List.getElem?_cons_succ, List.getElem?_cons_zero]; rfl)
              case step58 =>
                go_simp
                refine hK.out _ _ ?hS60 (fun hHeld' => ?rest60)
                case hS60 => ((try dsimp only); (go_split_ands; refine ⟨?_, ?_, ?_, ?_, ?_, ?_⟩ <;> first | assumption | exact cell_below hb4 (by assumption)))
                clear hK K
                (try simp only [Act.put, List.setIfInBounds_toArray, List.set_cons_zero, List.set_cons_succ])
                clear hHeld
                have hHeld := hHeld'
                clear hHeld'
                refine wpAnyH_ready (rs := [8]) (by kernel_rfl) (by simp) ?_
                refine AllReadyH.cons (o := ?o61) ?ho61 (fun K hK => ?step61) AllReadyH.nil
                case ho61 => (simp only [List.getElem?_toArray, List.getElem?_cons_succ, List.getElem?_cons_zero]; rfl)
                go_simp
                refine hK.out _ _ ?hS62 (fun hHeld' => ?rest62)
                case hS62 => ((try dsimp only); (go_split_ands; refine ⟨?_, ?_, ?_, ?_, ?_, ?_⟩ <;> first | (simp [go_sem, *]; done) | exact cell_below ((Below.refl _ _).alloc (Nat.le_refl _) _) (by assumption)))
                clear hK K
                (try simp only [Act.put, List.setIfInBounds_toArray, List.set_cons_zero, List.set_cons_succ])
                clear hHeld
                have hHeld := hHeld'
                clear hHeld'
                have hR5 := hR4.alloc (by have := hR4.size; omega) (.cells (ttCells ⟨(k : Int), tmOp t, -1, t.val⟩).toArray 90)
                have hsz5 := hR5.size
                refine wpAnyH_ready (rs := [9]) (by kernel_rfl) (by simp) ?_
                refine AllReadyH.cons (o := ?o63) ?ho63 (fun K hK => ?step63) AllReadyH.nil
                case ho63 => (simp only [List.getElem?_toArray, List.getElem?_cons_succ, List.getElem?_cons_zero]; rfl)
                (refine step_append_any (by rfl) (.tmp 37) (.tmp 44) 52 (by rfl) (w1.heap.size + 1) 90 _ 6 56 Tryz.underlying52 infoTt' (by rfl) (by omega) _ (testsUpTo p.terms k).length _ (by rfl) (ao_own HO.out hR5) (some ⟨_, 0, none⟩) 1 1 (by rfl) (ttCells ⟨(k : Int), tmOp t, -1, t.val⟩) (by rfl) (fun e => by cases e) (news_allocA _ _ _ _ (by rfl)) (ttCells_one _) (by unfold maxLen; omega) (by omega) (by simp at hsz5 ⊢; omega) ?_; intro a3 c3' w3 ho3 hg3 hl3; have hne3 : (Value.slice a' (testsUpTo p.terms k).length c').ownBlock ≠ some wr.heap.size := (fun e => by have := (HO.out.lt _ e).2; omega); have hW3 : Below (w1.heap.size + 1) wr w3 := ((hR5.mono (by omega)).grown hg3.out (by simp at hsz5 ⊢; omega) (fun g hg => (HO.out.lt g hg).1)); obtain ⟨_, _, m2, _, _, n2⟩ := HOUT.out.belowB hW3 (by omega))
                refine hK.out _ _ ?hS64 (fun hHeld' => ?rest64)
                case hS64 => ((try dsimp only); (go_split_ands; refine ⟨?_, ?_, ?_, ?_, ?_, ?_⟩ <;> first | exact (cell_grownO hg3.out hne3 (by have := hR4.size; simp; omega)).trans (by assumption)))
                clear hK K
                (try simp only [Act.put, List.setIfInBounds_toArray, List.set_cons_zero, List.set_cons_succ])
                clear hHeld
                have hHeld := hHeld'
                clear hHeld'
                refine wpAnyH_take (i := 10) (oi := ?oi65) (v := ?v65) ?hi65 (by kernel_rfl) (by kernel_rfl) (by kernel_rfl) (fun _ _ _ h => h) (Or.inl ⟨?wd65, ?hy65⟩) hHeld ?rest65
                case hi65 => (simp only [List.getElem?_toArray, List.getElem?_cons_succ, List.getElem?_cons_zero]; rfl)
                case wd65 => rfl
                case hy65 => (intro w hSw; (try dsimp only at hSw); go_simp; try with_reducible rfl)
                (try simp only [Act.put, List.setIfInBounds_toArray, List.set_cons_zero, List.set_cons_succ])
                refine wpAnyH_ready (rs := [11]) (by kernel_rfl) (by simp) ?_
                refine AllReadyH.cons (o := ?o66) ?ho66 (fun K hK => ?step66) AllReadyH.nil
                case ho66 => (simp only [List.getElem?_toArray, List.getElem?_cons_succ, List.getElem?_cons_zero]; rfl)
                go_simp
                refine hK.out _ _ ?hS67 (fun hHeld' => ?rest67)
                case hS67 => ((try dsimp only); (go_split_ands; refine ⟨?_, ?_, ?_, ?_, ?_, ?_⟩ <;> first | (simp [go_sem, *]; done)))
                clear hK K
                (try simp only [Act.put, List.setIfInBounds_toArray, List.set_cons_zero, List.set_cons_succ])
                clear hHeld
                have hHeld := hHeld'
                clear hHeld'
                refine wpAnyH_done (by kernel_rfl) ?_ _
                refine NoPanic.normal ?_
                have ho3' : w3.ownsRow (w1.heap.size + 1) 90 6 (.slice a3 (testsUpTo p.terms (k + 1)).length c3') (testsUpTo p.terms (k + 1)).length ((testsUpTo p.terms (k + 1)).flatMap ttCells) := by
                  have := ho3.out
                  rw [HTN.out, List.flatMap_append]
                  simpa [ttCells] using this
                have hlen : (testsUpTo p.terms (k + 1)).length = (testsUpTo p.terms k).length + 1 := by rw [HTN.out]; simp
                obtain ⟨u1, u2, u3⟩ := ao_put HOUT.out hW3 ho3' hb
                rw [hlen] at u1 u2 u3
                go_wp2
                go_roundw
                case rel => exact ⟨k + 1, a3, c3', by omega, by go_num, by rw [hlen]; exact u1, by rw [hlen]; exact u2, u3⟩
                case measure => simp [intOf]; omega
              case step59 =>
                go_simp
                refine hK.out _ _ ?hS68 (fun hHeld' => ?rest68)
                case hS68 => ((try dsimp only); (go_split_ands; refine ⟨?_, ?_, ?_, ?_, ?_, ?_⟩ <;> first | (simp [go_sem, *]; done) | exact cell_below ((Below.refl _ _).alloc (Nat.le_refl _) _) (by assumption)))
                clear hK K
                (try simp only [Act.put, List.setIfInBounds_toArray, List.set_cons_zero, List.set_cons_succ])
                clear hHeld
                have hHeld := hHeld'
                clear hHeld'
                refine wpAnyH_ready (rs := [1]) (by kernel_rfl) (by simp) ?_
                refine AllReadyH.cons (o := ?o69) ?ho69 (fun K hK => ?step69) AllReadyH.nil
                case ho69 => (simp only [List.getElem?_toArray, List.getElem?_cons_succ, List.getElem?_cons_zero]; rfl)
                go_simp
                refine hK.out _ _ ?hS70 (fun hHeld' => ?rest70)
                case hS70 => ((try dsimp only); (go_split_ands; refine ⟨?_, ?_, ?_, ?_, ?_, ?_⟩ <;> first | assumption))
                clear hK K
                (try simp only [Act.put, List.setIfInBounds_toArray, List.set_cons_zero, List.set_cons_succ])
                clear hHeld
                have hHeld := hHeld'
                clear hHeld'
                have hR5 := hR4.alloc (by have := hR4.size; omega) (.cells (ttCells ⟨(k : Int), tmOp t, -1, t.val⟩).toArray 90)
                have hsz5 := hR5.size
                refine wpAnyH_ready (rs := [9]) (by kernel_rfl) (by simp) ?_
                refine AllReadyH.cons (o := ?o71) ?ho71 (fun K hK => ?step71) AllReadyH.nil
                case ho71 => (simp only [List.getElem?_toArray, List.getElem?_cons_succ, List.getElem?_cons_zero]; rfl)
                (refine step_append_any (by rfl) (.tmp 37) (.tmp 44) 52 (by rfl) (w1.heap.size + 1) 90 _ 6 56 Tryz.underlying52 infoTt' (by rfl) (by omega) _ (testsUpTo p.terms k).length _ (by rfl) (ao_own HO.out hR5) (some ⟨_, 0, none⟩) 1 1 (by rfl) (ttCells ⟨(k : Int), tmOp t, -1, t.val⟩) (by rfl) (fun e => by cases e) (news_allocA _ _ _ _ (by rfl)) (ttCells_one _) (by unfold maxLen; omega) (by omega) (by simp at hsz5 ⊢; omega) ?_; intro a3 c3' w3 ho3 hg3 hl3; have hne3 : (Value.slice a' (testsUpTo p.terms k).length c').ownBlock ≠ some wr.heap.size := (fun e => by have := (HO.out.lt _ e).2; omega); have hW3 : Below (w1.heap.size + 1) wr w3 := ((hR5.mono (by omega)).grown hg3.out (by simp at hsz5 ⊢; omega) (fun g hg => (HO.out.lt g hg).1)); obtain ⟨_, _, m2, _, _, n2⟩ := HOUT.out.belowB hW3 (by omega))
                refine hK.out _ _ ?hS72 (fun hHeld' => ?rest72)
                case hS72 => ((try dsimp only); (go_split_ands; refine ⟨?_, ?_, ?_, ?_, ?_, ?_⟩ <;> first | exact (cell_grownO hg3.out hne3 (by have := hR4.size; simp; omega)).trans (by assumption)))
                clear hK K
                (try simp only [Act.put, List.setIfInBounds_toArray, List.set_cons_zero, List.set_cons_succ])
                clear hHeld
                have hHeld := hHeld'
                clear hHeld'
                refine wpAnyH_take (i := 10) (oi := ?oi73) (v := ?v73) ?hi73 (by kernel_rfl) (by kernel_rfl) (by kernel_rfl) (fun _ _ _ h => h) (Or.inl ⟨?wd73, ?hy73⟩) hHeld ?rest73
                case hi73 => (simp only [List.getElem?_toArray, List.getElem?_cons_succ, List.getElem?_cons_zero]; rfl)
                case wd73 => rfl
                case hy73 => (intro w hSw; (try dsimp only at hSw); go_simp; try with_reducible rfl)
                (try simp only [Act.put, List.setIfInBounds_toArray, List.set_cons_zero, List.set_cons_succ])
                refine wpAnyH_ready (rs := [11]) (by kernel_rfl) (by simp) ?_
                refine AllReadyH.cons (o := ?o74) ?ho74 (fun K hK => ?step74) AllReadyH.nil
                case ho74 => (simp only [List.getElem?_toArray, List.getElem?_cons_succ, List.getElem?_cons_zero]; rfl)
                go_simp
                refine hK.out _ _ ?hS75 (fun hHeld' => ?rest75)
                case hS75 => ((try dsimp only); (go_split_ands; refine ⟨?_, ?_, ?_, ?_, ?_, ?_⟩ <;> first | (simp [go_sem, *]; done)))
                clear hK K
                (try simp only [Act.put, List.setIfInBounds_toArray, List.set_cons_zero, List.set_cons_succ])
                clear hHeld
                have hHeld := hHeld'
                clear hHeld'
                refine wpAnyH_done (by kernel_rfl) ?_ _
                refine NoPanic.normal ?_
                have ho3' : w3.ownsRow (w1.heap.size + 1) 90 6 (.slice a3 (testsUpTo p.terms (k + 1)).length c3') (testsUpTo p.terms (k + 1)).length ((testsUpTo p.terms (k + 1)).flatMap ttCells) := by
                  have := ho3.out
                  rw [HTN.out, List.flatMap_append]
                  simpa [ttCells] using this
                have hlen : (testsUpTo p.terms (k + 1)).length = (testsUpTo p.terms k).length + 1 := by rw [HTN.out]; simp
                obtain ⟨u1, u2, u3⟩ := ao_put HOUT.out hW3 ho3' hb
                rw [hlen] at u1 u2 u3
                go_wp2
                go_roundw
                case rel => exact ⟨k + 1, a3, c3', by omega, by go_num, by rw [hlen]; exact u1, by rw [hlen]; exact u2, u3⟩
                case measure => simp [intOf]; omega
      · have hkk : k = p.terms.length := by omega
        subst hkk
        obtain ⟨o0, o1, o2, _, _, _⟩ := hout
        obtain ⟨r0, r1, r2, f0, f1, f2⟩ := hrz
        clear hpp
        go_wp2
        refine bodyPost_ret (v := .agg #[.string p.cls, .int .i64 (p.terms.length : Int), .slice a' (testsUpTo p.terms p.terms.length).length c']) (by simp [results, Tryz.results42, go_sem, r0, r1, r2]) rfl ⟨⟨a', c', by rw [HA.out], ?_⟩, ?_⟩
        · rw [HA.out]
          refine owns_base (owns_of_block HO.out (fun g hg => ?_)) (by omega)
          have hgl := (HO.out.lt g hg).1
          exact (((Low.setCell (B := w1.heap.size + 1) (by omega) _).trans (Low.setCell (by omega) _)).trans (Low.setCell (by omega) _)) g hgl
        · exact ((hBw.setCell (by simp) _).setCell (by simp) _).setCell (by simp) _
end Go.Proofs.YtgamdkokmkagaaaGreat
