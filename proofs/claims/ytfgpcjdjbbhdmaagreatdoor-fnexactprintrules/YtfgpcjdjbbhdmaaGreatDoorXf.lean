/-
  OUR OWN TEXT. Tx10, Tx11, one behind the other.
-/
import Derived.Test.YtfgpcjdjbbhdmaaGreatDoorXe
namespace Go.Proofs.YtfgpcjdjbbhdmaaGreatDoor
open Go.RowKit
attribute [local go_sem ↓] Go.wp_at_zero Go.wp_at_succ

theorem strV_app (l l' : List Bs) : strV (l ++ l') = strV l ++ strV l' := List.map_append
theorem txP_join (p : Pt) (pre : List Bs) (h : pre = (if p.neg then [notX, bsOf p.cls] else [bsOf p.cls])) : 40 :: (Lib.join (pre ++ p.terms.map txT) [32] ++ [41]) = txP p := by
  subst h
  unfold txP
  cases p.neg
  · show 40 :: (Lib.join (bsOf p.cls :: p.terms.map txT) [32] ++ [41]) = _
    rw [join_terms]
    simp
  · show 40 :: (Lib.join (notX :: bsOf p.cls :: p.terms.map txT) [32] ++ [41]) = _
    rw [join_terms2]
    simp

set_option maxHeartbeats 3200000 in
theorem pText_any (p : Pt) (a_t : Option Addr) (c_t : Nat) (hp : PtT p) (q : Option Nat) (w : World) (hE : TmsAt q w a_t p.terms) (hV : VarsAt w) :
    Calls Tryz.prog 92 #[.agg #[.bool p.neg, .string p.cls, .slice a_t p.terms.length c_t]] w fun e w' => e = .returned (.string (mkS (txP p))) ∧ Below w.heap.size w w' := by
  obtain ⟨hcl, ht6, htt⟩ := hp.get
  obtain ⟨cb, hcb⟩ : ∃ cb, p.cls = mkS cb := ⟨bsOf p.cls, (mkS_bs _).symm⟩
  have hPX := txP_join p
  have hPL := txP_le hp
  have HE := hidX hE
  have HV := hidX hV
  have HT := hidX htt
  rw [hcb, bs_mkS] at hPX
  rw [hcb]
  clear hE hV htt hcl hp hcb
  rcases (show p.neg = false ∨ p.neg = true by cases p.neg <;> simp) with hng | hng
  · have HX := hidX (hPX [cb] (by rw [hng]; rfl))
    have HL := hidX (show (Lib.join ([cb] ++ p.terms.map txT) [32]).length ≤ 10000000000 by have h1 := congrArg List.length HX.out; simp only [List.length_cons, List.length_append, List.length_nil] at h1 ⊢; omega)
    rw [hng]
    clear hPX hPL hng
    go_enter Tryz.func92, Tryz.ntmps92
    go_upto_region 4 with fail
    refine lift_alloc ?_
    intro wb hWb hqb
    have hlt : w.heap.size < wb.heap.size := lt_of_block' hqb
    have c1 : wb.cell? ⟨w.heap.size, 1, none⟩ = some (.string (mkS cb)) := by simp [World.cell?, hqb]
    have c2 : wb.cell? ⟨w.heap.size, 2, none⟩ = some (.slice a_t p.terms.length c_t) := by simp [World.cell?, hqb]
    clear hqb
    go_wp2_with (at_builtin; refine wpList_append_any (by rfl) (.tmp 11) (.tmp 14) 112 (by rfl) wb.heap.size 9 _ 1 16 Tryz.underlying112 infoTx (by rfl) (by omega) _ 0 _ (by rfl) (World.ownsRow_nil _ _ _ _) (some ⟨wb.heap.size, 0, none⟩) 1 1 (by rfl) [.string (mkS cb)] (by rfl) (fun e => by cases e) (news_new _ _ _ _ rfl) (by simp [Value.oneCell']) (by unfold maxLen; omega) (by omega) (by first | (simp; done) | (simp; omega)) ?_; intro a2 c2' w2 ho2 hg2 hl2; refine Hid.out ?_)
    refine hidX ?_
    have HB2 := hidX (((Below.refl wb.heap.size wb).alloc (Nat.le_refl _) _).grown hg2.out (by simp) (fun j hj => by cases hj))
    have e2 : w2.cell? ⟨w.heap.size, 2, none⟩ = some (.slice a_t p.terms.length c_t) := (HB2.out.cell (p := ⟨w.heap.size, 2, none⟩) hlt).trans c2
    have hs2 := HB2.out.size
    have HO2 := hidX (show w2.ownsRow wb.heap.size 9 1 (.slice a2 1 c2') 1 (strV [cb]) from ho2.out)
    clear ho2 hg2 hl2
    go_wp2
    go_loopw [3, 19] (fun sv iv wr => ∃ (k : Nat) (a' : Option Addr) (c' : Nat), k ≤ p.terms.length ∧ iv = .int .i64 (k : Int) ∧ sv = .slice a' (1 + k) c' ∧ wr.ownsRow wb.heap.size 9 1 (.slice a' (1 + k) c') (1 + k) (strV ([cb] ++ (p.terms.take k).map txT)) ∧ Below wb.heap.size wb wr) (fun _ iv _ => p.terms.length - (intOf iv).toNat)
    case atStart => exact ⟨0, a2, c2', Nat.zero_le _, rfl, rfl, by simpa using HO2.out, HB2.out⟩
    case round =>
      obtain ⟨k, a', c', hk, rfl, rfl, hown, hb⟩ := hrel
      have HR := hidX hown
      have HB := hidX hb
      have hsz := hb.size
      have HW := hidX (hWb.trans (hb.mono hWb.size))
      clear hown hb e2 hs2 HO2 HB2
      by_cases hkl : k < p.terms.length
      · obtain ⟨t, ht⟩ : ∃ t, p.terms[k]? = some t := ⟨p.terms[k], by simp [hkl]⟩
        obtain ⟨hgt, hnt⟩ := HT.out t (List.mem_of_getElem? ht)
        obtain ⟨b, o, rfl, _, t0, t1, t2, t3, t4, t5⟩ := (HE.out.below HW.out).get ht
        have i0 : (0 : Int) ≤ (k : Int) := by omega
        have i1 : (k : Int) < (p.terms.length : Int) := by omega
        have HLT : Hid ([cb] ++ (p.terms.take (k + 1)).map txT = ([cb] ++ (p.terms.take k).map txT) ++ [txT t]) := show _ = _ from by rw [List.take_add_one, ht]; simp
        have HA := hidX (fun o => (Below.refl _ _).alloc (Nat.le_refl _) o : ∀ o, Below wr.heap.size wr (wr.alloc o))
        have HVR := hidX (fun o => (HV.out.below HW.out).below (HA.out o))
        clear ht
        go_wp2_with (go_at_call 141; refine (tText_any t _ (HVR.out _) hgt hnt).mono ?_; rintro e w3 ⟨rfl, hb3⟩; refine Hid.out ?_)
        refine hidX ?_
        have hb3' := (HA.out _).trans (hb3.mono (HA.out _).size)
        have HR3 := hidX (own_bel HR.out hb3')
        have HB3 := hidX (HB.out.trans (hb3'.mono hsz))
        have hs3 := hb3'.size
        clear hb3 hb3' t0 t1 t2 t3 t4 t5
        go_wp2_with (at_builtin; refine wpList_append_any (by rfl) (.tmp 23) (.tmp 26) 112 (by rfl) wb.heap.size 9 _ 1 16 Tryz.underlying112 infoTx (by rfl) (by omega) _ (1 + k) _ (by rfl) (own_bel HR3.out ((Below.refl _ _).alloc (Nat.le_refl _) _)) (some ⟨w3.heap.size, 0, none⟩) 1 1 (by rfl) [.string (mkS (txT t))] (by rfl) (fun e => by cases e) (news_new _ _ _ _ rfl) (by simp [Value.oneCell']) (by unfold maxLen; omega) (by omega) (by first | (simp; done) | (simp; omega)) ?_; intro a4 c4 w4 ho4 hg4 hl4)
        have HB4 := hidX ((HB3.out.alloc (by omega) _).grown hg4.out (by simp; omega) (fun j hj => (HR3.out.lt j hj).1))
        go_wp2
        go_roundw
        case rel => exact ⟨k + 1, a4, c4, by omega, by go_num, by rw [Nat.add_assoc], strV_snoc ho4.out HLT.out (by omega), HB4.out⟩
        case measure => (simp [intOf]; omega)
      · obtain rfl : k = p.terms.length := by omega
        have i1 : ¬ (p.terms.length : Int) < (p.terms.length : Int) := by omega
        have h := HR.out
        rw [List.take_length] at h
        have en : 1 + p.terms.length = ([cb] ++ p.terms.map txT).length := by simp; omega
        have hc := own_capX h
        rw [en] at h hc
        have HF := hidX h
        have HEN := hidX en
        clear h en
        go_wp2_with (go_at_call 142; refine (brack_words ([cb] ++ p.terms.map txT) HEN.out (by simp) (by rw [← HEN.out]; omega) hc HF.out HL.out).mono ?_; rintro e w5 ⟨rfl, hb5⟩)
        go_ret
        exact ⟨ret_txt HX.out, HW.out.trans (hb5.mono HW.out.size)⟩
  · have HX := hidX (hPX [notX, cb] (by rw [hng]; rfl))
    have HL := hidX (show (Lib.join ([notX, cb] ++ p.terms.map txT) [32]).length ≤ 10000000000 by have h1 := congrArg List.length HX.out; simp only [List.length_cons, List.length_append, List.length_nil] at h1 ⊢; omega)
    rw [hng]
    clear hPX hPL hng
    go_enter Tryz.func92, Tryz.ntmps92
    go_upto_region 3 with fail
    refine lift_alloc ?_
    intro wb hWb hqb
    have hlt : w.heap.size < wb.heap.size := lt_of_block' hqb
    have c1 : wb.cell? ⟨w.heap.size, 1, none⟩ = some (.string (mkS cb)) := by simp [World.cell?, hqb]
    have c2 : wb.cell? ⟨w.heap.size, 2, none⟩ = some (.slice a_t p.terms.length c_t) := by simp [World.cell?, hqb]
    clear hqb
    go_wp2_with (at_builtin; refine wpList_append_any (by rfl) (.tmp 8) (.tmp 9) 112 (by rfl) wb.heap.size 9 _ 1 16 Tryz.underlying112 infoTx (by rfl) (by omega) _ 0 _ (by rfl) (World.ownsRow_nil _ _ _ _) (some ⟨wb.heap.size, 0, none⟩) 1 1 (by rfl) [.string (mkS notX)] (by rfl) (fun e => by cases e) (news_new _ _ _ _ rfl) (by simp [Value.oneCell']) (by unfold maxLen; omega) (by omega) (by first | (simp; done) | (simp; omega)) ?_; intro a1 c1' w1 ho1 hg1 hl1; refine Hid.out ?_)
    refine hidX ?_
    have HB1 := hidX (((Below.refl wb.heap.size wb).alloc (Nat.le_refl _) _).grown hg1.out (by simp) (fun j hj => by cases hj))
    have d1 : w1.cell? ⟨w.heap.size, 1, none⟩ = some (.string (mkS cb)) := (HB1.out.cell (p := ⟨w.heap.size, 1, none⟩) hlt).trans c1
    have d2 : w1.cell? ⟨w.heap.size, 2, none⟩ = some (.slice a_t p.terms.length c_t) := (HB1.out.cell (p := ⟨w.heap.size, 2, none⟩) hlt).trans c2
    have hs1 := HB1.out.size
    have HO1 := hidX ho1.out
    clear c1 c2 ho1 hg1 hl1
    go_wp2_with (at_builtin; refine wpList_append_any (by rfl) (.tmp 11) (.tmp 14) 112 (by rfl) wb.heap.size 9 _ 1 16 Tryz.underlying112 infoTx (by rfl) (by omega) _ 1 _ (by rfl) (own_bel HO1.out ((Below.refl _ _).alloc (Nat.le_refl _) _)) (some ⟨w1.heap.size, 0, none⟩) 1 1 (by rfl) [.string (mkS cb)] (by rfl) (fun e => by cases e) (news_new _ _ _ _ rfl) (by simp [Value.oneCell']) (by unfold maxLen; omega) (by omega) (by first | (simp; done) | (simp; omega)) ?_; intro a2 c2' w2 ho2 hg2 hl2; have HB2 := hidX ((HB1.out.alloc hs1 _).grown hg2.out (by simp; omega) (fun j hj => (HO1.out.lt j hj).1)); refine Hid.out ?_)
    refine hidX ?_
    have e2 : w2.cell? ⟨w.heap.size, 2, none⟩ = some (.slice a_t p.terms.length c_t) := (HB2.out.cell (p := ⟨w.heap.size, 2, none⟩) hlt).trans ((HB1.out.cell (p := ⟨w.heap.size, 2, none⟩) hlt).symm.trans d2)
    have hs2 := HB2.out.size
    have HO2 := hidX (show w2.ownsRow wb.heap.size 9 1 (.slice a2 2 c2') 2 (strV [notX, cb]) from ho2.out)
    clear ho2 hg2 hl2
    go_wp2
    go_loopw [3, 19] (fun sv iv wr => ∃ (k : Nat) (a' : Option Addr) (c' : Nat), k ≤ p.terms.length ∧ iv = .int .i64 (k : Int) ∧ sv = .slice a' (2 + k) c' ∧ wr.ownsRow wb.heap.size 9 1 (.slice a' (2 + k) c') (2 + k) (strV ([notX, cb] ++ (p.terms.take k).map txT)) ∧ Below wb.heap.size wb wr) (fun _ iv _ => p.terms.length - (intOf iv).toNat)
    case atStart => exact ⟨0, a2, c2', Nat.zero_le _, rfl, rfl, by simpa using HO2.out, HB2.out⟩
    case round =>
      obtain ⟨k, a', c', hk, rfl, rfl, hown, hb⟩ := hrel
      have HR := hidX hown
      have HB := hidX hb
      have hsz := hb.size
      have HW := hidX (hWb.trans (hb.mono hWb.size))
      clear hown hb e2 hs2 HO2 HB2
      by_cases hkl : k < p.terms.length
      · obtain ⟨t, ht⟩ : ∃ t, p.terms[k]? = some t := ⟨p.terms[k], by simp [hkl]⟩
        obtain ⟨hgt, hnt⟩ := HT.out t (List.mem_of_getElem? ht)
        obtain ⟨b, o, rfl, _, t0, t1, t2, t3, t4, t5⟩ := (HE.out.below HW.out).get ht
        have i0 : (0 : Int) ≤ (k : Int) := by omega
        have i1 : (k : Int) < (p.terms.length : Int) := by omega
        have HLT : Hid ([notX, cb] ++ (p.terms.take (k + 1)).map txT = ([notX, cb] ++ (p.terms.take k).map txT) ++ [txT t]) := show _ = _ from by rw [List.take_add_one, ht]; simp
        have HA := hidX (fun o => (Below.refl _ _).alloc (Nat.le_refl _) o : ∀ o, Below wr.heap.size wr (wr.alloc o))
        have HVR := hidX (fun o => (HV.out.below HW.out).below (HA.out o))
        clear ht
        go_wp2_with (go_at_call 141; refine (tText_any t _ (HVR.out _) hgt hnt).mono ?_; rintro e w3 ⟨rfl, hb3⟩; refine Hid.out ?_)
        refine hidX ?_
        have hb3' := (HA.out _).trans (hb3.mono (HA.out _).size)
        have HR3 := hidX (own_bel HR.out hb3')
        have HB3 := hidX (HB.out.trans (hb3'.mono hsz))
        have hs3 := hb3'.size
        clear hb3 hb3' t0 t1 t2 t3 t4 t5
        go_wp2_with (at_builtin; refine wpList_append_any (by rfl) (.tmp 23) (.tmp 26) 112 (by rfl) wb.heap.size 9 _ 1 16 Tryz.underlying112 infoTx (by rfl) (by omega) _ (2 + k) _ (by rfl) (own_bel HR3.out ((Below.refl _ _).alloc (Nat.le_refl _) _)) (some ⟨w3.heap.size, 0, none⟩) 1 1 (by rfl) [.string (mkS (txT t))] (by rfl) (fun e => by cases e) (news_new _ _ _ _ rfl) (by simp [Value.oneCell']) (by unfold maxLen; omega) (by omega) (by first | (simp; done) | (simp; omega)) ?_; intro a4 c4 w4 ho4 hg4 hl4)
        have HB4 := hidX ((HB3.out.alloc (by omega) _).grown hg4.out (by simp; omega) (fun j hj => (HR3.out.lt j hj).1))
        go_wp2
        go_roundw
        case rel => exact ⟨k + 1, a4, c4, by omega, by go_num, by rw [Nat.add_assoc], strV_snoc ho4.out HLT.out (by omega), HB4.out⟩
        case measure => (simp [intOf]; omega)
      · obtain rfl : k = p.terms.length := by omega
        have i1 : ¬ (p.terms.length : Int) < (p.terms.length : Int) := by omega
        have h := HR.out
        rw [List.take_length] at h
        have en : 2 + p.terms.length = ([notX, cb] ++ p.terms.map txT).length := by simp; omega
        have hc := own_capX h
        rw [en] at h hc
        have HF := hidX h
        have HEN := hidX en
        clear h en
        go_wp2_with (go_at_call 142; refine (brack_words ([notX, cb] ++ p.terms.map txT) HEN.out (by simp) (by rw [← HEN.out]; omega) hc HF.out HL.out).mono ?_; rintro e w5 ⟨rfl, hb5⟩)
        go_ret
        exact ⟨ret_txt HX.out, HW.out.trans (hb5.mono HW.out.size)⟩
end Go.Proofs.YtfgpcjdjbbhdmaaGreatDoor

namespace Go.Proofs.YtfgpcjdjbbhdmaaGreatDoor
open Go.RowKit
attribute [local go_sem ↓] Go.wp_at_zero Go.wp_at_succ

theorem txHd_cat (x : Bs) (y : Bs) : ({ data := #[40, 114, 117, 108, 101, 32] } : ByteArray) ++ mkS x ++ { data := #[32] } ++ mkS y = mkS (ruleB ++ (x ++ 32 :: y)) := by
  have e1 : ({ data := #[40, 114, 117, 108, 101, 32] } : ByteArray) = mkS ruleB := rfl
  have e2 : ({ data := #[32] } : ByteArray) = mkS [32] := rfl
  rw [e1, e2, mkS_app, mkS_app, mkS_app]
  simp
theorem txR_cat (x : Bs) : mkS x ++ ({ data := #[41, 10] } : ByteArray) = mkS (x ++ [41, 10]) := mkS_app x [41, 10]
theorem sz_rule : ({ data := #[40, 114, 117, 108, 101, 32] } : ByteArray).size = 6 := rfl
theorem txR_join (r : Ru) : Lib.join (txHd r :: (r.pats.map txP ++ thenB :: r.acts.map (txA r.exprs))) lineB ++ [41, 10] = txR r := by
  rw [join_lines]
  unfold txR
  simp

set_option maxHeartbeats 6400000 in
theorem rText_any (x : Ru) (a_pats : Option Addr) (c_pats : Nat) (a_exprs : Option Addr) (c_exprs : Nat) (a_acts : Option Addr) (c_acts : Nat) (q : Option Nat) (w : World) (h_pats : PtsAt q w a_pats x.pats) (h_exprs : ExsAt q w a_exprs x.exprs) (h_acts : AcsAt q w a_acts x.acts) (hx : RuT x) (hV : VarsAt w) :
    Calls Tryz.prog 46 #[.agg #[.string x.name, .int .i64 x.sal, .slice a_pats x.pats.length c_pats, .slice a_exprs x.exprs.length c_exprs, .slice a_acts x.acts.length c_acts]] w fun e w' => e = .returned (.string (mkS (txR x))) ∧ Below w.heap.size w w' := by
  have hXJ := txR_join x
  have hXL := txR_le hx
  obtain ⟨hnm, hsal, hp6, hpp, ha8, ⟨S, hT⟩, haa⟩ := hx
  obtain ⟨nb, hnb⟩ : ∃ nb, x.name = mkS nb := ⟨bsOf x.name, (mkS_bs _).symm⟩
  have hisl := Lib.itoa_length_le _ hsal.1 hsal.2
  obtain ⟨hd, hhd⟩ : ∃ hd, hd = txHd x := ⟨_, rfl⟩
  have HHD : Hid (ruleB ++ (nb ++ 32 :: Lib.itoa x.sal) = hd) := show _ = _ from by rw [hhd]; unfold txHd; rw [hnb, bs_mkS]
  rw [← hhd] at hXJ
  have hnl : nb.length ≤ 20 := by rw [hnb, mkS_size] at hnm; exact hnm
  have HX := hidX hXJ
  have HXL := hidX (show (Lib.join (hd :: (x.pats.map txP ++ thenB :: x.acts.map (txA x.exprs))) lineB).length ≤ 100000000000 by have h1 := congrArg List.length hXJ; simp only [List.length_append] at h1 ⊢; omega)
  have HP := hidX h_pats
  have HE := hidX h_exprs
  have HC := hidX h_acts
  have HV := hidX hV
  have HPP := hidX hpp
  have HAA := hidX haa
  rw [hnb]
  clear h_pats h_exprs h_acts hV hpp haa hXJ hXL hnb hhd hnm
  go_enter Tryz.func46, Tryz.ntmps46
  go_upto_region 1 with fail
  refine lift_alloc ?_
  intro wb hWb hqb
  have hlt : w.heap.size < wb.heap.size := lt_of_block' hqb
  have HBX := hidX hqb
  have c0 : wb.cell? ⟨w.heap.size, 0, none⟩ = some (.string (mkS nb)) := by simp [World.cell?, hqb]
  have c1 : wb.cell? ⟨w.heap.size, 1, none⟩ = some (.int .i64 x.sal) := by simp [World.cell?, hqb]
  clear hqb
  have HVB := hidX (HV.out.below hWb)
  refine wp_region_noPanic ?_
  refine wp_region_held_drew (S := (fun w' => w'.cell? ⟨w.heap.size, 0, none⟩ = some (.string (mkS nb)) ∧ w'.cell? ⟨w.heap.size, 1, none⟩ = some (.int .i64 x.sal))) (by kernel_rfl) ?_ (fun hHeld => ?_)
  · (try dsimp only)
    exact ⟨c0, c1⟩
  refine tk 0 hHeld ?_
  (try simp only [pA, pZ, pS])
  refine tk 1 hHeld ?_
  (try simp only [pA, pZ, pS])
  refine tk 2 hHeld ?_ (hy := fun w' _ => by go_simp; rw [if_neg (by (repeat (first | rw [ByteArray.size_append] | rw [mkS_size] | rw [sz_one])); omega)])
  (try simp only [pA, pZ, pS])
  refine tk 3 hHeld ?_ (hy := fun w' _ => by go_simp; rw [if_neg (by (repeat (first | rw [ByteArray.size_append] | rw [mkS_size] | rw [sz_one])); omega)])
  (try simp only [pA, pZ, pS])
  refine tk 4 hHeld ?_
  (try simp only [pA, pZ, pS])
  refine tk 5 hHeld ?_
  (try simp only [pA, pZ, pS])
  refine wpAnyH_ready (rs := [6]) (by kernel_rfl) (by simp) ?_
  refine AllReadyH.cons (List.getElem?_toArray.trans rfl) (fun K hK => ?_) AllReadyH.nil
  go_simp
  go_at_call 91; refine (fmtInt_any x.sal _ (HVB.out.below (Below.refl _ _).drew) hsal).mono ?_; rintro e' w1 ⟨rfl, hb1⟩
  (try go_wp2_with fail)
  refine hK.out _ _ ?hS12 (fun hHeld' => ?rest12)
  case hS12 => ((try dsimp only); exact ⟨cell_below hb1 hHeld.1, cell_below hb1 hHeld.2⟩)
  clear hK K
  (first | simp only [pA, pZ, pS] | simp only [pN] | skip)
  clear hHeld
  have hHeld := hHeld'
  clear hHeld'
  refine tk 7 hHeld ?_ (hy := fun w' _ => by go_simp; rw [if_neg (by (repeat (first | rw [ByteArray.size_append] | rw [mkS_size] | rw [sz_one])); omega)])
  (try simp only [pA, pZ, pS])
  rw [txHd_cat, HHD.out]
  have hA1 : ∀ o, Below w1.heap.size w1 (w1.alloc o) := fun o => (Below.refl _ _).alloc (Nat.le_refl _) _
  have HW1 := hidX (show Below wb.heap.size wb w1 from (Below.refl wb.heap.size wb).drew.trans (hb1.mono (by simp)))
  refine wpAnyH_ready (rs := [8]) (by kernel_rfl) (by simp) ?_
  refine AllReadyH.cons (List.getElem?_toArray.trans rfl) (fun K hK => ?_) AllReadyH.nil
  go_simp
  refine hK.out _ _ ?hS13 (fun hHeld' => ?rest13)
  case hS13 => ((try dsimp only); exact ⟨cell_below (hA1 _) hHeld.1, cell_below (hA1 _) hHeld.2⟩)
  clear hK K
  (first | simp only [pA, pZ, pS] | simp only [pN] | skip)
  clear hHeld
  have hHeld := hHeld'
  clear hHeld'
  refine tk 9 hHeld ?_
  (try simp only [pA, pZ, pS])
  refine wpAnyH_done (by kernel_rfl) ?_ _
  refine NoPanic.normal ?_
  refine lift_alloc ?_
  intro w2 hW2 hq2
  have HO2 := hidX (show w2.ownsRow wb.heap.size 9 1 (.slice (some ⟨w1.heap.size, 0, none⟩) 1 1) 1 (strV [hd]) from own_fresh (L := strV [hd]) hq2 HW1.out.size (by simp [strV]))
  have HB2 := hidX (HW1.out.trans (hW2.mono HW1.out.size))
  have hs2 := HB2.out.size
  clear hW2 hq2 c0 c1 hHeld hA1 hb1
  have HBK := hidX (fun w' (h : Below wb.heap.size wb w') => (h.block _ hlt).trans HBX.out)
  have hq := HBK.out w2 HB2.out
  have c2 : w2.cell? ⟨w.heap.size, 2, none⟩ = some (.slice a_pats x.pats.length c_pats) := by simp [World.cell?, hq]
  clear hq
  go_wp2
  go_loopw [3, 20] (fun sv iv wr => ∃ (k : Nat) (a' : Option Addr) (c' : Nat), k ≤ x.pats.length ∧ iv = .int .i64 (k : Int) ∧ sv = .slice a' (1 + k) c' ∧ wr.ownsRow wb.heap.size 9 1 (.slice a' (1 + k) c') (1 + k) (strV (hd :: (x.pats.take k).map txP)) ∧ Below wb.heap.size wb wr) (fun _ iv _ => x.pats.length - (intOf iv).toNat)
  case atStart => exact ⟨0, _, _, Nat.zero_le _, rfl, rfl, HO2.out, HB2.out⟩
  case round =>
    obtain ⟨k, a', c', hk, rfl, rfl, hown, hb⟩ := hrel
    have HR := hidX hown
    have HB := hidX hb
    have hsz := hb.size
    have HW := hidX (hWb.trans (hb.mono hWb.size))
    clear hown hb c2 hs2 HO2 HB2
    by_cases hkl : k < x.pats.length
    · obtain ⟨p, hp⟩ : ∃ p, x.pats[k]? = some p := ⟨x.pats[k], by simp [hkl]⟩
      have hpt := HPP.out p (List.mem_of_getElem? hp)
      obtain ⟨b, o, a_t, c_t, rfl, _, t0, t1, t2, htm⟩ := (HP.out.below HW.out).get hp
      have HTM := hidX htm
      have i0 : (0 : Int) ≤ (k : Int) := by omega
      have i1 : (k : Int) < (x.pats.length : Int) := by omega
      have HLT : Hid (hd :: (x.pats.take (k + 1)).map txP = (hd :: (x.pats.take k).map txP) ++ [txP p]) := show _ = _ from by rw [List.take_add_one, hp]; simp
      have HA := hidX (fun o => (Below.refl _ _).alloc (Nat.le_refl _) o : ∀ o, Below wr.heap.size wr (wr.alloc o))
      have HVR := hidX (fun o => (HV.out.below HW.out).below (HA.out o))
      clear hp htm
      go_wp2_with (go_at_call 92; refine (pText_any p a_t c_t hpt q _ (HTM.out.below (HA.out _)) (HVR.out _)).mono ?_; rintro e w3 ⟨rfl, hb3⟩; refine Hid.out ?_)
      refine hidX ?_
      have hb3' := (HA.out _).trans (hb3.mono (HA.out _).size)
      have HR3 := hidX (own_bel HR.out hb3')
      have HB3 := hidX (HB.out.trans (hb3'.mono hsz))
      have hs3 := hb3'.size
      clear hb3 hb3' t0 t1 t2
      go_wp2_with (at_builtin; refine wpList_append_any (by rfl) (.tmp 24) (.tmp 27) 112 (by rfl) wb.heap.size 9 _ 1 16 Tryz.underlying112 infoTx (by rfl) (by omega) _ (1 + k) _ (by rfl) (own_bel HR3.out ((Below.refl _ _).alloc (Nat.le_refl _) _)) (some ⟨w3.heap.size, 0, none⟩) 1 1 (by rfl) [.string (mkS (txP p))] (by rfl) (fun e => by cases e) (news_new _ _ _ _ rfl) (by simp [Value.oneCell']) (by unfold maxLen; omega) (by omega) (by first | (simp; done) | (simp; omega)) ?_; intro a4 c4 w4 ho4 hg4 hl4)
      have HB4 := hidX ((HB3.out.alloc (by omega) _).grown hg4.out (by simp; omega) (fun j hj => (HR3.out.lt j hj).1))
      go_wp2
      go_roundw
      case rel => exact ⟨k + 1, a4, c4, by omega, by go_num, by rw [Nat.add_assoc], strV_snoc ho4.out HLT.out (by omega), HB4.out⟩
      case measure => (simp [intOf]; omega)
    · obtain rfl : k = x.pats.length := by omega
      have i1 : ¬ (x.pats.length : Int) < (x.pats.length : Int) := by omega
      have h := HR.out
      rw [List.take_length] at h
      have HR' := hidX h
      obtain ⟨w3, hw3⟩ : ∃ u, u = wr := ⟨wr, rfl⟩
      rw [← hw3] at HR' HB HW hsz ⊢
      have c4 : ∀ w', Below wb.heap.size wb w' → w'.cell? ⟨w.heap.size, 4, none⟩ = some (.slice a_acts x.acts.length c_acts) := fun w' h => by simp [World.cell?, HBK.out w' h]
      have HC4 := hidX c4
      clear h HR hw3 c4
      go_wp2_with (at_builtin; refine wpList_append_any (by rfl) (.tmp 30) (.tmp 31) 112 (by rfl) wb.heap.size 9 _ 1 16 Tryz.underlying112 infoTx (by rfl) (by omega) _ (1 + x.pats.length) _ (by rfl) (own_bel HR'.out ((Below.refl _ _).alloc (Nat.le_refl _) _)) (some ⟨w3.heap.size, 0, none⟩) 1 1 (by rfl) [.string (mkS thenB)] (by rfl) (fun e => by cases e) (news_new _ _ _ _ rfl) (by simp [Value.oneCell']) (by unfold maxLen; omega) (by omega) (by first | (simp; done) | (simp; omega)) ?_; intro a4 c4' w4 ho4 hg4 hl4; have HB4 := hidX ((HB.out.alloc (by omega) _).grown hg4.out (by simp; omega) (fun j hj => (HR'.out.lt j hj).1)); have c4 := HC4.out w4 HB4.out)
      have HO4 := hidX (strV_snoc (l' := hd :: (x.pats.map txP) ++ [thenB]) ho4.out rfl rfl)
      obtain ⟨pre, hpre⟩ : ∃ l, l = hd :: (x.pats.map txP) ++ [thenB] := ⟨_, rfl⟩
      have hprl : pre.length = x.pats.length + 2 := by rw [hpre]; simp
      have HPRE := hidX hpre
      have hpr8 : pre.length ≤ 8 := by omega
      have HO5 := hidX (show w4.ownsRow wb.heap.size 9 1 (.slice a4 (1 + x.pats.length + 1) c4') (1 + x.pats.length + 1) (strV pre) by rw [hpre]; exact HO4.out)
      obtain ⟨m, hm⟩ : ∃ m, m = 1 + x.pats.length + 1 := ⟨_, rfl⟩
      rw [← hm] at HO5 ⊢
      have hm8 : m ≤ 8 := by omega
      have hm1 : 1 ≤ m := by omega
      have HML := hidX (show pre.length = m by omega)
      clear ho4 hg4 hl4 HO4 hpre hprl hm HR' HB hpr8
      go_loopw [3, 36] (fun sv iv wr => ∃ (k : Nat) (a' : Option Addr) (c' : Nat), k ≤ x.acts.length ∧ iv = .int .i64 (k : Int) ∧ sv = .slice a' (m + k) c' ∧ wr.ownsRow wb.heap.size 9 1 (.slice a' (m + k) c') (m + k) (strV (pre ++ (x.acts.take k).map (txA x.exprs))) ∧ Below wb.heap.size wb wr) (fun _ iv _ => x.acts.length - (intOf iv).toNat)
      case atStart => exact ⟨0, a4, c4', Nat.zero_le _, rfl, rfl, by simpa using HO5.out, HB4.out⟩
      case round =>
        obtain ⟨k, a', c', hk, rfl, rfl, hown, hb⟩ := hrel
        have HR := hidX hown
        have HB := hidX hb
        have hsz := hb.size
        have HW := hidX (hWb.trans (hb.mono hWb.size))
        have hq := HBK.out _ hb
        have c3 : wr.cell? ⟨w.heap.size, 3, none⟩ = some (.slice a_exprs x.exprs.length c_exprs) := by simp [World.cell?, hq]
        clear hown hb hq c4 HO5 HB4
        by_cases hkl : k < x.acts.length
        · obtain ⟨y, hy⟩ : ∃ p, x.acts[k]? = some p := ⟨x.acts[k], by simp [hkl]⟩
          have hyt := HAA.out y (List.mem_of_getElem? hy)
          obtain ⟨b, o, a_g, c_g, rfl, _, t0, t1, t2, t3, htm⟩ := (HC.out.below HW.out).get hy
          have HTM := hidX htm
          have i0 : (0 : Int) ≤ (k : Int) := by omega
          have i1 : (k : Int) < (x.acts.length : Int) := by omega
          have HLT : Hid (pre ++ (x.acts.take (k + 1)).map (txA x.exprs) = (pre ++ (x.acts.take k).map (txA x.exprs)) ++ [txA x.exprs y]) := show _ = _ from by rw [List.take_add_one, hy]; simp
          have HA := hidX (fun o => (Below.refl _ _).alloc (Nat.le_refl _) o : ∀ o, Below wr.heap.size wr (wr.alloc o))
          have HVR := hidX (fun o => (HV.out.below HW.out).below (HA.out o))
          have HER := hidX (fun o => (HE.out.below HW.out).below (HA.out o))
          have hwl : w.heap.size < wr.heap.size := by omega
          clear hy htm
          go_wp2_with (go_at_call 93; refine (aText_any y a_g c_g hT hyt a_exprs c_exprs q _ (HER.out _) (HTM.out.below (HA.out _)) (HVR.out _)).mono ?_; rintro e w5 ⟨rfl, hb5⟩; refine Hid.out ?_)
          refine hidX ?_
          have hb5' := (HA.out _).trans (hb5.mono (HA.out _).size)
          have HR5 := hidX (own_bel HR.out hb5')
          have HB5 := hidX (HB.out.trans (hb5'.mono hsz))
          have hs5 := hb5'.size
          clear hb5 hb5' t0 t1 t2 t3 c3
          go_wp2_with (at_builtin; refine wpList_append_any (by rfl) (.tmp 40) (.tmp 45) 112 (by rfl) wb.heap.size 9 _ 1 16 Tryz.underlying112 infoTx (by rfl) (by omega) _ (m + k) _ (by rfl) (own_bel HR5.out ((Below.refl _ _).alloc (Nat.le_refl _) _)) (some ⟨w5.heap.size, 0, none⟩) 1 1 (by rfl) [.string (mkS (txA x.exprs y))] (by rfl) (fun e => by cases e) (news_new _ _ _ _ rfl) (by simp [Value.oneCell']) (by unfold maxLen; omega) (by omega) (by first | (simp; done) | (simp; omega)) ?_; intro a6 c6 w6 ho6 hg6 hl6)
          have HB6 := hidX ((HB5.out.alloc (by omega) _).grown hg6.out (by simp; omega) (fun j hj => (HR5.out.lt j hj).1))
          go_wp2
          go_roundw
          case rel => exact ⟨k + 1, a6, c6, by omega, by go_num, by rw [Nat.add_assoc], strV_snoc ho6.out HLT.out (by omega), HB6.out⟩
          case measure => (simp [intOf]; omega)
        · obtain rfl : k = x.acts.length := by omega
          have i1 : ¬ (x.acts.length : Int) < (x.acts.length : Int) := by omega
          have h := HR.out
          rw [List.take_length] at h
          have en : m + x.acts.length = (pre ++ x.acts.map (txA x.exprs)).length := by rw [List.length_append, HML.out, List.length_map]
          have hc := own_capX h
          rw [en] at h hc
          obtain ⟨bb, rfl, hstr, hbb⟩ := StrC.owns h (by rw [← en]; omega)
          have HST := hidX hstr
          have hJ : Lib.join (pre ++ x.acts.map (txA x.exprs)) lineB ++ [41, 10] = txR x ∧ (Lib.join (pre ++ x.acts.map (txA x.exprs)) lineB).length ≤ 100000000000 := by
            have e : pre ++ x.acts.map (txA x.exprs) = hd :: (x.pats.map txP ++ thenB :: x.acts.map (txA x.exprs)) := by rw [HPRE.out]; simp
            rw [e]
            exact ⟨HX.out, HXL.out⟩
          have HJR := hidX (fun w' (h1 : StrC w' bb 0 (pre ++ x.acts.map (txA x.exprs))) (h2 : bb < w'.heap.size) => by
            have := join_any bb 0 c' _ lineB w' h1 h2 (by rw [← en]; omega) hc hJ.2
            rw [← en] at this
            exact this)
          obtain ⟨J, hJe⟩ : ∃ J, J = Lib.join (pre ++ x.acts.map (txA x.exprs)) lineB := ⟨_, rfl⟩
          rw [← hJe] at HJR hJ
          have HJ1 := hidX hJ.1
          have hJ2 := hJ.2
          have y1 : ¬ 9223372036854775807 < (mkS J).size + ({ data := #[41, 10] } : ByteArray).size := by rw [mkS_size]; have : ({ data := #[41, 10] } : ByteArray).size = 2 := rfl; omega
          have y2 : ¬ 9223372036854775807 < (mkS J).size + 2 := by rw [mkS_size]; omega
          clear h hstr en hc hJ hJe c3
          go_wp2_with (go_at_call 94; refine (HJR.out _ HST.out hbb).mono ?_; rintro e w5 ⟨rfl, hb5⟩)
          go_ret
          refine ⟨?_, HW.out.trans (hb5.mono HW.out.size)⟩
          rw [← HJ1.out]
          exact congrArg (fun x => Ending.returned (.string x)) (txR_cat J)
end Go.Proofs.YtfgpcjdjbbhdmaaGreatDoor
