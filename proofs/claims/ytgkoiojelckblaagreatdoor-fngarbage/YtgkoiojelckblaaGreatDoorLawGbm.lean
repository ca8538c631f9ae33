/-
  OUR OWN TEXT. The law FnGarbage, out of the contracts.
-/
import Derived.Test.YtgkoiojelckblaaGreatDoorKbn
import Derived.Test.YtgkoiojelckblaaGreatDoorKbc
import Derived.Test.YtgkoiojelckblaaGreatDoorKax
import Derived.Test.YtgkoiojelckblaaGreatDoorKbb
import Derived.Lib.SlBytesConst
namespace Go.Proofs.YtgkoiojelckblaaGreatDoor
open Go.RowKit
attribute [local go_sem ↓] Go.wp_at_zero Go.wp_at_succ

/-- What the law asks of the program's own variables. -/
structure VarsG (w : World) : Prop where
  env : EnvAt w w.heap.size
  err : ErrT w
theorem ByA.of_bys {w : World} {a : Option Addr} {l : Bs} (h : BysAt w a l) : ByA w a l.length := fun j hj => by
  obtain ⟨x, hx⟩ : ∃ x, l[j]? = some x := ⟨l[j], by simp [hj]⟩
  obtain ⟨b, o, e, hb, hc⟩ := h j x hx
  exact ⟨b, o, x.toNat, e, hb, x.toNat_lt, hc⟩
theorem BysAt.take {w : World} {a : Option Addr} {l : Bs} (h : BysAt w a l) (n : Nat) : BysAt w a (l.take n) := fun j x hx => by
  rw [List.getElem?_take] at hx
  split at hx
  · exact h j x hx
  · cases hx
theorem bys_grown {w w' : World} {a : Option Addr} {l : Bs} {row : Option Nat} {B : Nat} (h : BysAt w a l) (hB : ∀ b o, a = some ⟨b, o, none⟩ → b < B) (hg : w.grownBy w' row) (hr : ∀ k, row = some k → B ≤ k) : BysAt w' a l := fun j x hx => by
  obtain ⟨b, o, e, hb, hc⟩ := h j x hx
  have hbB := hB b o e
  refine ⟨b, o, e, Nat.lt_of_lt_of_le hb hg.size, ?_⟩
  rw [World.cell?_of_block (w := w) (hg.block b hb (fun e2 => by have := hr b e2.symm; omega))]
  exact hc
theorem infoU8g : (Tryz.prog.info? 5).map (fun i => (i.zero, i.size, i.bytes)) = some (some (.int .u8 0), 1, 1) := by kernel_rfl
theorem one41 (w : World) : BysAt (w.alloc (.cells #[.int .u8 41] 5)) (some ⟨w.heap.size, 0, none⟩) [41] := fun j x hx => by
  match j, hx with
  | 0, hx =>
    injection hx with hx
    subst hx
    exact ⟨_, 0, rfl, by simp, cell_of (L := [Value.int .u8 41]) (heap_alloc_new _ _) (j := 0) rfl⟩
  | j + 1, hx => simp at hx
set_option maxRecDepth 100000 in
set_option maxHeartbeats 6400000 in
theorem law_gb (cd mo : Bs) (a1 a2 : Option Addr) (c1 c2 : Nat) (w : World) (h1 : BysAt w a1 cd) (h2 : BysAt w a2 mo) (hc2 : mo.length ≤ c2) (hV : VarsG w) :
    Calls Tryz.prog 3 #[.slice a1 cd.length c1, .slice a2 mo.length c2] w fun e w' => e = .returned (.bool true) ∧ Below w.heap.size w w' := by
  by_cases hb1 : 1048576 < cd.length
  · have k1 : (1048576 : Int) < (cd.length : Int) := by omega
    go_enter Tryz.func3, Tryz.ntmps3
    go_wp2_with fail
    go_ret
    exact ⟨rfl, Below.refl _ _⟩
  by_cases hb2 : 1048576 < mo.length
  · have k1 : ¬ (1048576 : Int) < (cd.length : Int) := by omega
    have k2 : (1048576 : Int) < (mo.length : Int) := by omega
    go_enter Tryz.func3, Tryz.ntmps3
    go_wp2_with fail
    go_ret
    exact ⟨rfl, Below.refl _ _⟩
  have k1 : ¬ (1048576 : Int) < (cd.length : Int) := by omega
  have k2 : ¬ (1048576 : Int) < (mo.length : Int) := by omega
  have H2 := hidX h2
  have HV := hidX hV
  have HD := hidX (DrawRules_any a1 cd.length c1 w (ByA.of_bys h1) (by omega))
  have HF2 := hidX (fun b o (e : a2 = some ⟨b, o, none⟩) (hm : mo ≠ []) => (show b < w.heap.size from by
    cases mo with
    | nil => exact absurd rfl hm
    | cons x r =>
      obtain ⟨b', o', e', hb', _⟩ := h2 0 x rfl
      rw [e] at e'
      injection e' with e'
      injection e' with e' _
      rw [e']
      exact hb'))
  clear h1 h2 hV hb1 hb2
  go_enter Tryz.func3, Tryz.ntmps3
  go_upto_region 4 with (first | (go_at_call 5; refine HD.out.mono ?_; rintro e w1 ⟨ra, rc, rs, rfl, hRs, hl4, hRN, hRA, hrc, hb1⟩; have HSP := hidX (sPrint_own rs ra rc none w1 hRA (by omega) (fun r hr => RuT.of ((chk_each (by rw [hRs.chk])).2 r hr).1 (hRN r hr)) (hidX (l2Checked_yes rs ra rc w1 hRA hrc hRs.le hRs.ops (by rw [hRs.chk])))); have HRS := hidX hRs; have HRN := hidX hRN; have HB1 := hidX hb1; clear hRs hRN hRA hb1) | (go_at_call 4; refine HSP.out.mono ?_; rintro e w2 ⟨⟨v2, rfl, hbo2⟩, hb2⟩) | fail)
  obtain ⟨L, hL⟩ : ∃ L, L = txRs rs := ⟨_, rfl⟩
  have hLl : L.length ≤ 16000 := by
    have := txRs_lin rs (fun r hr => ⟨((chk_each (by rw [HRS.out.chk])).2 r hr).1, HRN.out r hr⟩)
    rw [hL]
    omega
  have HGB := hidX (fun more (hm : (L ++ 41 :: more).length ≤ 20000) => (show prR (L ++ 41 :: more) = .error (3, L.length) from by
    rw [hL] at hm ⊢
    exact garbage_back (by rw [HRS.out.chk]) HRN.out more hm))
  rw [← hL] at hbo2
  have HB2 := hidX (HB1.out.trans (hb2.mono HB1.out.size))
  have hsz1 := HB1.out.size
  have hsz2 := hb2.size
  obtain ⟨A2, C2, hv2, _, _⟩ := hbo2.cells
  subst hv2
  have BO2 := hidX hbo2
  have H22 := hidX (H2.out.below HB2.out)
  clear hbo2 hb2 HD HSP HB1 hL k1
  go_upto_if 22 with fail
  go_cut [1] (fun mv wx => ∃ (mo' : Bs) (c' : Nat), mv = .slice a2 mo'.length c' ∧ wx = w2 ∧ mo'.length ≤ 500 ∧ BysAt w2 a2 mo' ∧ (mo' ≠ [] → mo ≠ []))
  case first =>
    by_cases h5 : 500 < mo.length
    · have e1 : (500 : Int) < (mo.length : Int) := by omega
      have e2 : (500 : Int) ≤ (c2 : Int) := by omega
      have hne : mo ≠ [] := fun e => by rw [e] at h5; simp at h5
      have hT : Hid ((mo.take 500).length = 500) := show _ = _ from by rw [List.length_take]; omega
      obtain ⟨b, o, hao⟩ : ∃ b o, a2 = some ⟨b, o, none⟩ := by
        cases mo with
        | nil => exact absurd rfl hne
        | cons x r =>
          obtain ⟨b, o, e, _⟩ := H2.out 0 x rfl
          exact ⟨b, o, e⟩
      subst hao
      go_wp2_with fail
      go_meet
      exact ⟨mo.take 500, c2, by rw [hT.out], rfl, by rw [hT.out]; omega, H22.out.take 500, fun _ => hne⟩
    · have e1 : ¬ (500 : Int) < (mo.length : Int) := by omega
      go_wp2_with fail
      go_meet
      exact ⟨mo, c2, rfl, rfl, by omega, H22.out, id⟩
  case rest =>
    obtain ⟨mo', c', rfl, hwc, hm5, hbm, hne⟩ := hcut
    subst hwc
    have HBM := hidX hbm
    have HNE := hidX hne
    clear hbm hne H22 H2
    obtain ⟨w2, rfl⟩ : ∃ u, u = wc := ⟨wc, rfl⟩
    have HAL := hidX (fun o => (Below.refl _ _).alloc (Nat.le_refl _) o : ∀ o, Below w2.heap.size w2 (w2.alloc o))
    go_upto_region 8 with (first | (at_builtin; refine wpList_append_mark (by rfl) (.tmp 27) (.tmp 28) 22 (by rfl) w1.heap.size Tryz.underlying22 infoU8g _ L (by rfl) (BO2.out.below (HAL.out _)) (some ⟨_, 0, none⟩) 1 [41] (by rfl) (one41 _) (by simp; omega) (by simp; omega) ?_; intro v3 w3 hbo3 hg3) | fail)
    obtain ⟨A3, C3, hv3, _, _⟩ := hbo3.out.cells
    subst hv3
    have hs3 := hg3.out.size
    simp at hs3
    have hlt2 : ∀ k, (Value.slice A2 L.length C2).ownBlock = some k → w.heap.size ≤ k := fun k hk => by have := (BO2.out.lt k hk).1; omega
    have HB3 := hidX ((HB2.out.trans ((HAL.out _).mono HB2.out.size)).grown hg3.out (by simp; omega) hlt2 : Below w.heap.size w w3)
    have HBM3 : Hid (BysAt w3 a2 mo') := show BysAt w3 a2 mo' from by
      by_cases hm0 : mo' = []
      · rw [hm0]
        exact fun j x hx => by simp at hx
      · exact bys_grown (HBM.out.below (HAL.out _)) (fun b o e => HF2.out b o e (HNE.out hm0)) hg3.out hlt2
    have BO3 := hidX hbo3.out
    have hlt3 : ∀ k, (Value.slice A3 (L ++ [41]).length C3).ownBlock = some k → w.heap.size ≤ k := fun k hk => by have := (BO3.out.lt k hk).1; omega
    have hL41 : (L ++ [41]).length = L.length + 1 := by simp
    clear hbo3 hg3 HBM BO2 HAL
    go_upto_region 9 with (first | (at_builtin; refine wpList_append_mark (by rfl) (.tmp 30) (.tmp 31) 22 (by rfl) w1.heap.size Tryz.underlying22 infoU8g _ (L ++ [41]) (by rfl) BO3.out a2 c' mo' (by rfl) HBM3.out (by rw [hL41]; omega) (by omega) ?_; intro v4 w4 hbo4 hg4) | fail)
    obtain ⟨S, hS⟩ : ∃ S, S = L ++ [41] ++ mo' := ⟨_, rfl⟩
    rw [← hS] at hbo4
    have hSl : S.length = L.length + 1 + mo'.length := by rw [hS]; simp; omega
    have HPB := hidX (show prR S = .error (3, L.length) from by
      rw [hS, List.append_assoc]
      exact HGB.out mo' (by simp; omega))
    obtain ⟨A4, C4, hv4, hby4, hcp4⟩ := hbo4.out.cells
    subst hv4
    have hs4 := hg4.out.size
    have HB4 := hidX (HB3.out.grown hg4.out (by omega) hlt3 : Below w.heap.size w w4)
    have HBM4 : Hid (BysAt w4 a2 mo') := show BysAt w4 a2 mo' from by
      by_cases hm0 : mo' = []
      · rw [hm0]
        exact fun j x hx => by simp at hx
      · exact bys_grown HBM3.out (fun b o e => HF2.out b o e (HNE.out hm0)) hg4.out hlt3
    have hfar : ∀ b o, A4 = some ⟨b, o, none⟩ → b < w4.heap.size := fun b o e => (hbo4.out.lt b (by rw [e]; rfl)).2
    have HPR := hidX (fun u (hu : Below w4.heap.size w4 u) => iParse_bad HPB.out A4 C4 u (hby4.below hu) hcp4 (fun b o e => Nat.lt_of_lt_of_le (hfar b o e) hu.size) (HV.out.env.laterG (HB4.out.trans (hu.mono HB4.out.size))) (HV.out.err.laterG (HB4.out.trans (hu.mono HB4.out.size))))
    have HSS := hidX (fun u sv how (hu : Below w4.heap.size w4 u) (h0 : 0 ≤ how) (h3 : how ≤ 3) => iSession_bad HPB.out A4 C4 sv how u (hby4.below hu) hcp4 (fun b o e => Nat.lt_of_lt_of_le (hfar b o e) hu.size) (HV.out.env.laterG (HB4.out.trans (hu.mono HB4.out.size))) (HV.out.err.laterG (HB4.out.trans (hu.mono HB4.out.size))) h0 h3)
    have HPK := hidX (fun u (hu : Below w4.heap.size w4 u) => pick_zero a2 c' mo' u (HBM4.out.below hu))
    have hS20 : ¬ (20000 : Int) < (S.length : Int) := by omega
    clear hbo4 hg4 HBM3 HBM4 BO3 hby4 hcp4 hfar HB3 hS HGB hlt3 hlt2 HPB hSl HF2 HNE
    go_upto_region 10 with (first | (go_at_call 6; refine (HPR.out _ (Below.refl _ _)).mono ?_; rintro e w5 ⟨⟨la, lc, rfl⟩, hb5⟩) | fail)
    refine lift_alloc ?_
    intro w6 hW6 hq6
    have s6 : w5.heap.size < w6.heap.size := lt_of_block' hq6
    have hs5 := hb5.size
    have B6 := hidX (hb5.trans (hW6.mono hs5) : Below w4.heap.size w4 w6)
    have HQ6 := hidX hq6
    have HPK6 : ∀ o : Obj, Calls Tryz.prog 8 #[.slice a2 mo'.length c', .int .i64 0] (w6.alloc o) fun e w7 => ∃ k : Int, 0 ≤ k ∧ k ≤ 255 ∧ e = .returned (.int .i64 k) ∧ Below w4.heap.size w4 w7 ∧ Below w6.heap.size w6 w7 := fun o => by
      have ha : Below w6.heap.size w6 (w6.alloc o) := (Below.refl _ _).alloc (Nat.le_refl _) o
      refine (HPK.out _ (B6.out.trans (ha.mono B6.out.size))).mono ?_
      rintro e w7 ⟨k, h0, h1, rfl, hb7⟩
      have h67 := ha.trans (hb7.mono ha.size)
      exact ⟨k, h0, h1, rfl, B6.out.trans (h67.mono B6.out.size), h67⟩
    have HPK := hidX HPK6
    clear HPK6 hW6 hq6 hb5 HPR
    have kc := fun (w : World) (C : Array Value) (n c : Nat) => Lib.run_convert_bytes_const (P := Tryz.prog) w 22 5 C n c Tryz.underlying22 Tryz.underlying5
    go_upto_region 11 with (first | (go_at_call 8; refine (HPK.out _).mono ?_; rintro e w7 ⟨pk, hp0, hp1, rfl, hb7, hb67⟩; have B7 := hidX hb7; have B67 := hidX hb67; clear hb7 hb67) | (go_at_call 7; refine (HSS.out _ _ _ B7.out (by omega) (by omega)).mono ?_; rintro e w8 ⟨rfl, hb8⟩; unfold outL) | fail)
    refine lift_alloc ?_
    intro w9 hW9 hq9
    have q0 := cell_of (L := [_, _, _, _, _, _, _]) hq9 (j := 0) rfl
    have q1 := cell_of (L := [_, _, _, _, _, _, _]) hq9 (j := 1) rfl
    have q2 := cell_of (L := [_, _, _, _, _, _, _]) hq9 (j := 2) rfl
    have q3 := cell_of (L := [_, _, _, _, _, _, _]) hq9 (j := 3) rfl
    have q4 := cell_of (L := [_, _, _, _, _, _, _]) hq9 (j := 4) rfl
    have hs7 := B67.out.size
    have hs8 := hb8.size
    have B69 := B67.out.trans ((hb8.trans (hW9.mono hs8)).mono hs7)
    have hp := (B69.block w5.heap.size s6).trans HQ6.out
    have p0 := cell_of (L := [_, _, _]) hp (j := 0) rfl
    have p1 := cell_of (L := [_, _, _]) hp (j := 1) rfl
    have p2 := cell_of (L := [_, _, _]) hp (j := 2) rfl
    have B9 := hidX (B7.out.trans ((hb8.trans (hW9.mono hs8)).mono B7.out.size) : Below w4.heap.size w4 w9)
    clear hp B69 hb8 hW9 hq9 HQ6 B67 HSS HPK B6 B7 kc
    go_wp2_with fail
    go_ret
    exact ⟨rfl, HB4.out.trans (B9.out.mono HB4.out.size)⟩
end Go.Proofs.YtgkoiojelckblaaGreatDoor
