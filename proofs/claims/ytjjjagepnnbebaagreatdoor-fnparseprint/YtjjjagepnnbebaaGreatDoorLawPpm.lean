/-
  OUR OWN TEXT. The law FnParsePrint, out of the contracts.
-/
import Derived.Test.YtjjjagepnnbebaaGreatDoorKaz
import Derived.Test.YtjjjagepnnbebaaGreatDoorKbn
import Derived.Test.YtjjjagepnnbebaaGreatDoorRt4m
import Derived.Test.YtjjjagepnnbebaaGreatDoorKaw
import Derived.Test.YtjjjagepnnbebaaGreatDoorRram
namespace Go.Proofs.YtjjjagepnnbebaaGreatDoor
open Go.RowKit
attribute [local go_sem ↓] Go.wp_at_zero Go.wp_at_succ

/-- What the law asks of the program's own variables. -/
structure VarsP (w : World) : Prop where
  env : EnvAt w w.heap.size
  err : ErrT w
  tab : VarsAt w
theorem EnvAt.laterP {w w' : World} (h : EnvAt w w.heap.size) (hb : Below w.heap.size w w') : EnvAt w' w'.heap.size :=
  ⟨(h.keep hb).err, (h.keep hb).tests, Nat.lt_of_lt_of_le h.g1 hb.size, Nat.lt_of_lt_of_le h.g2 hb.size⟩
theorem ErrT.laterP {w w' : World} (h : ErrT w) (hb : Below w.heap.size w w') : ErrT w' := (World.cell?_of_block (w := w) (hb.block 0 (lt_cellX h))).trans h
theorem VarsP.later {w w' : World} (h : VarsP w) (hb : Below w.heap.size w w') : VarsP w' := ⟨h.env.laterP hb, h.err.laterP hb, h.tab.below hb⟩
theorem le_lq {rs : List Ru} (h : ListLe Ru.le 1048576 rs) : ListLe Ru.lq 1048576 rs :=
  ⟨h.1, fun r hr => by
    obtain ⟨_, hp, he, ha⟩ := h.2 r hr
    exact ⟨trivial, ⟨hp.1, fun p hp' => ⟨trivial, (hp.2 p hp').2.1, fun _ _ => trivial⟩⟩, ⟨he.1, fun _ _ => trivial⟩, ha.1, fun x hx => ⟨trivial, (ha.2 x hx).2⟩⟩⟩
/-- A text that is rules is read. -/
theorem iParse_ok {src : Bs} {rs : List Ru} {l : List Wd} (hp : prR src = .ok (rs, l)) (a : Option Addr) (c : Nat) (w : World) (hv : BysAt w a src) (hcap : src.length ≤ c) (hfar : ∀ b o, a = some ⟨b, o, none⟩ → b < w.heap.size) (hV : VarsP w) : Calls Tryz.prog 7 #[.slice a src.length c] w fun e w' => ∃ la lc, e = .returned (.agg #[.int .i64 0, .int .i64 0, .slice la rs.length lc]) ∧ RusAt none w' la rs ∧ rs.length ≤ lc ∧ Below w.heap.size w w' := by
  refine (iParseRules_any src a c w hv hcap hfar hV.env hV.err).mono ?_
  rintro e w' ⟨hb, code, pos, la, lc, M, rfl, hr, hm⟩
  rw [hp] at hm
  obtain ⟨h1, h2, h3⟩ := hm
  subst h1
  subst h2
  subst h3
  exact ⟨la, lc, by simp [csL], hr.at, by rw [List.length_map]; exact owns_cap hr.row, hb⟩
set_option maxRecDepth 100000 in
set_option maxHeartbeats 6400000 in
theorem law_pp (cd : Bs) (a1 : Option Addr) (c1 : Nat) (w : World) (h1 : BysAt w a1 cd) (hV : VarsP w) :
    Calls Tryz.prog 3 #[.slice a1 cd.length c1] w fun e w' => e = .returned (.bool true) ∧ Below w.heap.size w w' := by
  by_cases hb1 : 1048576 < cd.length
  · have k1 : (1048576 : Int) < (cd.length : Int) := by omega
    go_enter Tryz.func3, Tryz.ntmps3
    go_wp2_with fail
    go_ret
    exact ⟨rfl, Below.refl _ _⟩
  have k1 : ¬ (1048576 : Int) < (cd.length : Int) := by omega
  have HV := hidX (fun u (hu : Below w.heap.size w u) => hV.later hu)
  have HD := hidX (fun u (hu : Below w.heap.size w u) => DrawRules_any cd a1 c1 u (h1.below hu) (by omega))
  clear h1 hV hb1
  go_enter Tryz.func3, Tryz.ntmps3
  go_upto_region 4 with (first | (go_at_call 6; refine (HD.out _ (Below.refl _ _)).mono ?_; rintro e w1 ⟨ra, rc, rs, rfl, hRs, hl4, hRN, hRA, hrc, hb1, hrE⟩; have HPR := hidX (iPrint_any rs ra rc none w1 hRA hrc hRs.le hRs.ops hRN (HV.out _ hb1).tab); have HRS := hidX hRs; have HRN := hidX hRN; have HB1 := hidX hb1; clear hRs hRN hRA hb1) | (go_at_call 5; refine HPR.out.mono ?_; rintro e w2 ⟨⟨A2, C2, rfl, hown2⟩, hb2⟩) | fail)
  rw [prnt_yes (show (chk rs).1 = 0 from by rw [HRS.out.chk])] at hown2 ⊢
  obtain ⟨L, hL⟩ : ∃ L, L = txRs rs := ⟨_, rfl⟩
  have HPB : Hid (∃ l, prR L = .ok (rs, l)) := show _ from by
    have := txRs_lin rs (fun r hr => ⟨((chk_each (by rw [HRS.out.chk])).2 r hr).1, HRN.out r hr⟩)
    rw [hL]
    exact print_back (by rw [HRS.out.chk]) HRN.out (by omega)
  rw [← hL] at hown2 ⊢
  obtain ⟨lw, hlw⟩ := HPB.out
  have hs1 := HB1.out.size
  have B2 := hidX (HB1.out.trans (hb2.mono hs1) : Below w.heap.size w w2)
  have HPA := hidX (iParse_ok hlw A2 C2 w2 (BysAt.owns hown2) (owns_cap hown2) (fun b o e => (hown2.lt b (by rw [e]; rfl)).2) (HV.out _ B2.out))
  have hs2 := hb2.size
  clear hown2 hb2 HB1 HPR hL HPB hlw
  go_upto_region 5 with (first | (go_at_call 7; refine HPA.out.mono ?_; rintro e w3 ⟨la, lc, rfl, hra3, hlc, hb3⟩) | fail)
  refine lift_alloc ?_
  intro w4 hW4 hq4
  have p0 := cell_of (L := [_, _, _]) hq4 (j := 0) rfl
  have p1 := cell_of (L := [_, _, _]) hq4 (j := 1) rfl
  have p2 := cell_of (L := [_, _, _]) hq4 (j := 2) rfl
  have hs3 := hb3.size
  have hs4 : w3.heap.size < w4.heap.size := lt_of_block' hq4
  have B4 := hidX (B2.out.trans ((hb3.trans (hW4.mono hs3)).mono B2.out.size) : Below w.heap.size w w4)
  have HRA := hidX (fun u (hu : Below w4.heap.size w4 u) => (hra3.below hW4).below hu)
  clear hra3 hW4 hq4 hb3 HPA
  have HD4 := hidX (fun u (hu : Below w4.heap.size w4 u) => HD.out u (B4.out.trans (hu.mono B4.out.size)))
  have HRS4 := hidX (le_lq HRS.out.le)
  clear HD HV B2 HRN
  have HCK := hidX (fun u (hu : Below w4.heap.size w4 u) => iCheckRules_any la lc rs u (HRA.out u hu) hlc HRS.out.le HRS.out.ops)
  have hck : ckV (chk rs) = .agg #[.int .i64 0, .int .i64 0, .int .i64 0] := by rw [HRS.out.chk]; rfl
  rw [hck] at HCK
  clear hck
  go_wp2_with fail
  go_region_held3 (fun w' => w'.cell? ⟨w3.heap.size, 0, none⟩ = some (.int .i64 0) ∧ w'.cell? ⟨w3.heap.size, 1, none⟩ = some (.int .i64 0) ∧ w'.cell? ⟨w3.heap.size, 2, none⟩ = some (.slice la rs.length lc))
    ((go_split_ands; refine ⟨?_, ?_, ?_⟩ <;> first | with_reducible exact cell_below hb7 (by assumption) | with_reducible exact cell_below hb6 (by assumption) | with_reducible exact cell_below hb5 (by assumption) | exact cell_below (Below.refl _ _).drew (by assumption)))
    (first | (go_at_call 6; refine (HD4.out _ (Below.refl _ _).drew).mono ?_; rintro e w5 ⟨ra5, rc5, rs5, rfl, hRs5, _, _, hRA5, hrc5, hb5, hrE5⟩; have hE5 : rs = rs5 := hrE.out.trans hrE5.out.symm; subst hE5; have hb45 := hidX ((Below.refl _ _).drew.trans hb5 : Below w4.heap.size w4 w5)) | (go_at_call 8; refine (sameRules_sameq la ra5 lc rc5 rs w5 (HRA.out _ hb45.out) hRA5 HRS4.out).mono ?_; rintro e w6 ⟨rfl, hb6⟩; have hb46 := hidX (hb45.out.trans (hb6.mono hb45.out.size))) | (go_at_call 9; refine (HCK.out _ hb46.out).mono ?_; rintro e w7 ⟨rfl, hb7⟩) | fail)
  go_wp2_with fail
  go_ret
  exact ⟨rfl, B4.out.trans ((hb46.out.trans (hb7.mono hb46.out.size)).mono B4.out.size)⟩
end Go.Proofs.YtjjjagepnnbebaaGreatDoor
