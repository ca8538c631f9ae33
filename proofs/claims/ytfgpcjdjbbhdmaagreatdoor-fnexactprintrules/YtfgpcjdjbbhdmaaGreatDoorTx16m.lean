/-
  OUR OWN TEXT. The model's rules as a text (its drawn region by gentx.py).
-/
import Derived.Test.YtfgpcjdjbbhdmaaGreatDoorTx15m
import Derived.Test.YtfgpcjdjbbhdmaaGreatDoorTx12m
import Derived.Test.YtfgpcjdjbbhdmaaGreatDoorZr
import Derived.Lib.ConvBytes
import Derived.Lib.AtoiErrMem
namespace Go.Proofs.YtfgpcjdjbbhdmaaGreatDoor
open Go.RowKit
attribute [local go_sem ↓] Go.wp_at_zero Go.wp_at_succ

/-- Bytes in a block below B. -/
def BysB (B : Nat) (w : World) (a : Option Addr) (l : Bs) : Prop := ∀ (j : Nat) x, l[j]? = some x → ∃ b o, a = some ⟨b, o, none⟩ ∧ b < B ∧ w.cell? ⟨b, o + j, none⟩ = some (.int .u8 (x.toNat : Int))
theorem BysB.keep {B : Nat} {w w' : World} {a : Option Addr} {l : Bs} (h : BysB B w a l) (hk : ∀ b, b < B → w'.heap[b]? = w.heap[b]?) : BysB B w' a l := fun j x hx => by
  obtain ⟨b, o, e, hl, hc⟩ := h j x hx
  exact ⟨b, o, e, hl, by rw [World.cell?_of_block (w := w) (hk b hl)]; exact hc⟩
theorem BysB.low {B B' : Nat} {w w' : World} {a : Option Addr} {l : Bs} (h : BysB B w a l) (hb : Below B' w w') (hB : B ≤ B') : BysB B w' a l := h.keep fun b hl => hb.block b (by omega)
theorem BysB.at {B : Nat} {w : World} {a : Option Addr} {l : Bs} (h : BysB B w a l) (hB : B ≤ w.heap.size) : BysAt w a l := fun j x hx => by
  obtain ⟨b, o, e, hl, hc⟩ := h j x hx
  exact ⟨b, o, e, by omega, hc⟩
/-- What the model answers. -/
def SPost (w : World) (l : Bs) (e : Ending) (w' : World) : Prop := (∃ a c, e = .returned (.slice a l.length c) ∧ BysB w'.heap.size w' a l) ∧ Below w.heap.size w w'
theorem catR (x : Bs) (l : Bs) : mkS x ++ (⟨l.toArray⟩ : ByteArray) = mkS (x ++ l) := mkS_app x l
theorem catH (X nb sl : Bs) : mkS X ++ (({ data := #[40, 114, 117, 108, 101, 32] } : ByteArray) ++ mkS nb ++ { data := #[32] } ++ mkS sl) = mkS (X ++ (ruleB ++ (nb ++ 32 :: sl))) := by
  have e1 : ({ data := #[40, 114, 117, 108, 101, 32] } : ByteArray) = mkS ruleB := rfl
  have e2 : ({ data := #[32] } : ByteArray) = mkS [32] := rfl
  rw [e1, e2, mkS_app, mkS_app, mkS_app, mkS_app]
  simp
theorem catL (x y : Bs) : mkS x ++ (({ data := #[10, 32, 32] } : ByteArray) ++ mkS y) = mkS (x ++ (lineB ++ y)) := by
  have e : ({ data := #[10, 32, 32] } : ByteArray) = mkS lineB := rfl
  rw [e, mkS_app, mkS_app]
theorem ngB (b : Bool) : (if b then notX ++ [32] else []) = if b then [110, 111, 116, 32] else [] := by cases b <;> rfl

set_option maxHeartbeats 12800000 in
theorem sPrint_yes (rs : List Ru) (a : Option Addr) (c : Nat) (q : Option Nat) (w : World) (hv : RusAt q w a rs) (h16 : rs.length ≤ 16) (hT : ∀ r ∈ rs, RuT r)
    (HC : Hid (Calls Tryz.prog 40 #[.slice a rs.length c] w fun e w' => e = .returned (.bool true) ∧ Below w.heap.size w w')) :
    Calls Tryz.prog 20 #[.slice a rs.length c] w (SPost w (txRs rs)) := by
  have HV := hidX hv
  have HT := hidX hT
  have hlen := txRs_le h16 hT
  clear hv hT
  go_enter Tryz.func20, Tryz.ntmps20
  go_wp2_with (go_at_call 40; with_reducible refine HC.out.mono ?_; rintro e w1 ⟨rfl, hb1⟩)
  go_loopw [3, 17] (fun sv iv wr => ∃ k : Nat, k ≤ rs.length ∧ iv = .int .i64 (k : Int) ∧ sv = .string (mkS (txRs (rs.take k))) ∧ Below w.heap.size w wr) (fun _ iv _ => rs.length - (intOf iv).toNat)
  case atStart => exact ⟨0, Nat.zero_le _, rfl, rfl, hb1⟩
  case round =>
    obtain ⟨k, hk, rfl, rfl, hb⟩ := hrel
    have HB := hidX hb
    have hsz := hb.size
    have hX : (txRs (rs.take k)).length ≤ (txRs rs).length := flat_take_leY _ _ _
    clear hb hb1
    by_cases hkl : k < rs.length
    · obtain ⟨x, hx⟩ : ∃ x, rs[k]? = some x := ⟨rs[k], by simp [hkl]⟩
      have hxT := HT.out x (List.mem_of_getElem? hx)
      have hhdl := txHd_le hxT
      obtain ⟨b, o, a1, c1, a2, c2, a3, c3, rfl, _, t0, t1, t2, t3, t4, hpt, hex, hac, _⟩ := (HV.out.below HB.out).get hx
      obtain ⟨hnm, hsal, hp6, hpp, ha8, ⟨SS, hES⟩, haa⟩ := hxT
      have hpsl := txPs_le hp6 hpp
      have hasl := txAs_le hES ha8 haa
      have hisl := Lib.itoa_length_le _ hsal.1 hsal.2
      have HPT := hidX hpt
      have HEX := hidX hex
      have HAC := hidX hac
      have HPP := hidX hpp
      have HAA := hidX haa
      have i0 : (0 : Int) ≤ (k : Int) := by omega
      have i1 : (k : Int) < (rs.length : Int) := by omega
      have HLT : Hid (txRs (rs.take (k + 1)) = txRs (rs.take k) ++ txR x) := flat_takeS txR hx
      obtain ⟨X, hXe⟩ : ∃ X, X = txRs (rs.take k) := ⟨_, rfl⟩
      obtain ⟨nb, hnb⟩ : ∃ nb, x.name = mkS nb := ⟨bsOf x.name, (mkS_bs _).symm⟩
      obtain ⟨hd, hhd⟩ : ∃ hd, hd = txHd x := ⟨_, rfl⟩
      have HHD : Hid (ruleB ++ (nb ++ 32 :: Lib.itoa x.sal) = hd) := show _ = _ from by rw [hhd]; unfold txHd; rw [hnb, bs_mkS]
      have HXR : Hid (X ++ (hd ++ (txPs x.pats ++ (lineB ++ (thenB ++ (txAs x.exprs x.acts ++ [41, 10]))))) = txRs (rs.take (k + 1))) := show _ = _ from by rw [HLT.out, ← hXe, hhd]; rfl
      rw [← hXe] at hX ⊢
      rw [← hhd] at hhdl
      rw [hnb] at t0
      have hnl : nb.length ≤ 20 := by rw [hnb, mkS_size] at hnm; exact hnm
      have hX4 : X.length ≤ 42000000000 := by omega
      obtain ⟨wo, hwo⟩ : ∃ u, u = wr := ⟨wr, rfl⟩
      rw [← hwo] at HB hsz HPT HEX HAC t0 t1 t2 t3 t4 ⊢
      clear hpt hex hac hpp haa hx hXe hhd HLT hnm hnb hwo hX hlen
      go_upto_region 7 with fail
      refine lift_alloc ?_
      intro wb hWb hqb
      have hlt : wo.heap.size < wb.heap.size := lt_of_block' hqb
      have HBX := hidX hqb
      have e0 : wb.cell? ⟨wo.heap.size, 0, none⟩ = some (.string (mkS nb)) := by simp [World.cell?, hqb]
      have e1 : wb.cell? ⟨wo.heap.size, 1, none⟩ = some (.int .i64 x.sal) := by simp [World.cell?, hqb]
      have HBK := hidX (fun w' (h : Below wb.heap.size wb w') => (h.block _ hlt).trans HBX.out)
      clear hqb t0 t1 t2 t3 t4
      refine wp_region_noPanic ?_
      refine wp_region_held_drew (S := (fun w' => w'.cell? ⟨wo.heap.size, 0, none⟩ = some (.string (mkS nb)) ∧ w'.cell? ⟨wo.heap.size, 1, none⟩ = some (.int .i64 x.sal))) (by kernel_rfl) ?_ (fun hHeld => ?_)
      · (try dsimp only)
        exact ⟨e0, e1⟩
      refine tk 0 hHeld ?_
      (try simp only [pA, pZ, pS])
      refine tk 1 hHeld ?_
      (try simp only [pA, pZ, pS])
      refine tk 2 hHeld ?_
      (try simp only [pA, pZ, pS])
      refine tk 3 hHeld ?_ (hy := fun w' _ => by go_simp; rw [if_neg (by (repeat (first | rw [ByteArray.size_append] | rw [mkS_size] | rw [sz_one])); omega)])
      (try simp only [pA, pZ, pS])
      refine tk 4 hHeld ?_ (hy := fun w' _ => by go_simp; rw [if_neg (by (repeat (first | rw [ByteArray.size_append] | rw [mkS_size] | rw [sz_one])); omega)])
      (try simp only [pA, pZ, pS])
      refine tk 5 hHeld ?_
      (try simp only [pA, pZ, pS])
      refine tk 6 hHeld ?_
      (try simp only [pA, pZ, pS])
      refine wpAnyH_ready (rs := [7]) (by kernel_rfl) (by simp) ?_
      refine AllReadyH.cons (List.getElem?_toArray.trans rfl) (fun K hK => ?_) AllReadyH.nil
      go_simp
      go_at_call 41; refine (l1Dec_num x.sal _ hsal).mono ?_; rintro e' w2 ⟨rfl, hb2⟩
      (try go_wp2_with fail)
      refine hK.out _ _ ?hS1 (fun hHeld' => ?rest1)
      case hS1 => ((try dsimp only); exact ⟨cell_below hb2 hHeld.1, cell_below hb2 hHeld.2⟩)
      clear hK K
      (first | simp only [pA, pZ, pS] | simp only [pN] | skip)
      clear hHeld
      have hHeld := hHeld'
      clear hHeld'
      refine tk 8 hHeld ?_ (hy := fun w' _ => by go_simp; rw [if_neg (by (repeat (first | rw [ByteArray.size_append] | rw [mkS_size] | rw [sz_one])); omega)])
      (try simp only [pA, pZ, pS])
      refine tk 9 hHeld ?_ (hy := fun w' _ => by go_simp; rw [if_neg (by (repeat (first | rw [ByteArray.size_append] | rw [mkS_size] | rw [sz_one])); omega)])
      (try simp only [pA, pZ, pS])
      rw [catH, HHD.out]
      refine tk 10 hHeld ?_
      (try simp only [pA, pZ, pS])
      refine wpAnyH_done (by kernel_rfl) ?_ _
      refine NoPanic.normal ?_
      have HB2 := hidX (show Below wb.heap.size wb w2 from (Below.refl wb.heap.size wb).drew.trans (hb2.mono (by simp)))
      have hq := HBK.out w2 HB2.out
      have e2 : w2.cell? ⟨wo.heap.size, 2, none⟩ = some (.slice a1 x.pats.length c1) := by simp [World.cell?, hq]
      clear hq hb2 hHeld e0 e1
      go_wp2
      go_loopw [3, 34] (fun sv iv wr => ∃ j : Nat, j ≤ x.pats.length ∧ iv = .int .i64 (j : Int) ∧ sv = .string (mkS (X ++ (hd ++ txPs (x.pats.take j)))) ∧ Below wb.heap.size wb wr) (fun _ iv _ => x.pats.length - (intOf iv).toNat)
      case atStart => exact ⟨0, Nat.zero_le _, rfl, by simp [txPs], HB2.out⟩
      case round =>
        obtain ⟨j, hj, rfl, rfl, hbj⟩ := hrel
        have HBj := hidX hbj
        have hszj := hbj.size
        have hPj : (txPs (x.pats.take j)).length ≤ (txPs x.pats).length := flat_take_leY _ _ _
        have HWj := hidX (hWb.trans (hbj.mono hWb.size))
        clear hbj e2 HB2
        by_cases hjl : j < x.pats.length
        · obtain ⟨p, hp⟩ : ∃ p, x.pats[j]? = some p := ⟨x.pats[j], by simp [hjl]⟩
          have hpt := HPP.out p (List.mem_of_getElem? hp)
          obtain ⟨hcl, ht6, htt⟩ := hpt.get
          have hppl := txP_le hpt
          have htsl := txTs_le ht6 htt
          obtain ⟨b, o, a_t, c_t, rfl, _, u0, u1, u2, htm⟩ := (HPT.out.below HWj.out).get hp
          have HTM := hidX htm
          have HTT := hidX htt
          have i0 : (0 : Int) ≤ (j : Int) := by omega
          have i1 : (j : Int) < (x.pats.length : Int) := by omega
          obtain ⟨cb, hcb⟩ : ∃ cb, p.cls = mkS cb := ⟨bsOf p.cls, (mkS_bs _).symm⟩
          obtain ⟨Y, hY⟩ : ∃ Y, Y = X ++ (hd ++ txPs (x.pats.take j)) := ⟨_, rfl⟩
          have hYl : Y.length ≤ 43000000000 := by rw [hY, List.length_append, List.length_append]; omega
          obtain ⟨ng, hng⟩ : ∃ ng : Bs, ng = if p.neg then [110, 111, 116, 32] else [] := ⟨_, rfl⟩
          have hngl : ng.length ≤ 4 := by rw [hng]; cases p.neg <;> simp
          have HYN : Hid (Y ++ [10, 32, 32, 40] ++ ng ++ cb ++ txTs p.terms ++ [41] = X ++ (hd ++ txPs (x.pats.take (j + 1)))) := show _ = _ from by
            have h1 : txPs (x.pats.take (j + 1)) = txPs (x.pats.take j) ++ (lineB ++ txP p) := flat_takeS _ hp
            rw [h1, hY, hng]
            unfold txP
            rw [ngB, hcb, bs_mkS]
            simp [lineB]
          have hcbl : cb.length ≤ 20 := by rw [hcb, mkS_size] at hcl; exact hcl
          rw [hcb] at u1
          rw [← hY]
          have HNG := hidX hng
          clear htm htt hpt hp hY hcl hcb hng
          obtain ⟨wr1, hwr1⟩ : ∃ u, u = wr := ⟨wr, rfl⟩
          rw [← hwr1] at HBj hszj HWj HTM u0 u1 u2 ⊢
          clear hwr1
          have z1 : ¬ 9223372036854775807 < (mkS Y).size + 4 := by rw [mkS_size]; omega
          have z2 : ¬ 9223372036854775807 < (mkS Y).size + ({ data := #[10, 32, 32, 40] } : ByteArray).size := z1
          rcases (show p.neg = false ∨ p.neg = true by cases p.neg <;> simp) with hn | hn
          · rw [hn] at u0 HNG
            clear hn
            go_upto_region 14 with fail
            refine lift_alloc ?_
            intro wp hWp hqp
            have hltp : wr1.heap.size < wp.heap.size := lt_of_block' hqp
            have p1 : wp.cell? ⟨wr1.heap.size, 1, none⟩ = some (.string (mkS cb)) := by simp [World.cell?, hqp]
            have p2 : wp.cell? ⟨wr1.heap.size, 2, none⟩ = some (.slice a_t p.terms.length c_t) := by simp [World.cell?, hqp]
            clear hqp u0 u1 u2
            rw [catR Y [10, 32, 32, 40]]
            obtain ⟨Y2, hY2⟩ : ∃ Y2, Y2 = Y ++ [10, 32, 32, 40] := ⟨_, rfl⟩
            have hY2l : Y2.length ≤ 43000000008 := by rw [hY2, List.length_append]; simp; omega
            have HY2 : Hid (Y2 = Y ++ [10, 32, 32, 40] ++ ng) := show _ = _ from by rw [hY2, HNG.out]; simp
            rw [← hY2]
            clear hY2 z1 z2
            have z3 : ¬ 9223372036854775807 < (mkS Y2).size + (mkS cb).size := by rw [mkS_size, mkS_size]; omega
            go_upto_region 15 with fail
            rw [mkS_app Y2 cb]
            obtain ⟨Y3, hY3⟩ : ∃ Y3, Y3 = Y2 ++ cb := ⟨_, rfl⟩
            have hY3l : Y3.length ≤ 43000000028 := by rw [hY3, List.length_append]; omega
            have HY3 := hidX hY3
            rw [← hY3]
            clear hY3 z3
            have HBp := hidX (HBj.out.trans (hWp.mono hszj))
            have HWp2 := hidX (HWj.out.trans (hWp.mono HWj.out.size))
            have hszp := HBp.out.size
            go_wp2
            go_loopw [3, 51] (fun sv iv wr => ∃ i : Nat, i ≤ p.terms.length ∧ iv = .int .i64 (i : Int) ∧ sv = .string (mkS (Y3 ++ txTs (p.terms.take i))) ∧ Below wp.heap.size wp wr) (fun _ iv _ => p.terms.length - (intOf iv).toNat)
            case atStart => exact ⟨0, Nat.zero_le _, rfl, by simp [txTs], Below.refl _ _⟩
            case round =>
              obtain ⟨i, hi, rfl, rfl, hbi⟩ := hrel
              have HBi := hidX hbi
              have hszi := hbi.size
              have hTi : (txTs (p.terms.take i)).length ≤ (txTs p.terms).length := flat_take_leY _ _ _
              clear hbi p1 p2
              by_cases hil : i < p.terms.length
              · obtain ⟨t, ht⟩ : ∃ t, p.terms[i]? = some t := ⟨p.terms[i], by simp [hil]⟩
                obtain ⟨hgt, hnt⟩ := HTT.out t (List.mem_of_getElem? ht)
                have htl := txT_le hgt hnt
                obtain ⟨b, o, rfl, _, v0, v1, v2, v3, v4, v5⟩ := ((HTM.out.below hWp).below HBi.out).get ht
                have j0 : (0 : Int) ≤ (i : Int) := by omega
                have j1 : (i : Int) < (p.terms.length : Int) := by omega
                have HLI : Hid (Y3 ++ txTs (p.terms.take (i + 1)) = (Y3 ++ txTs (p.terms.take i)) ++ 32 :: txT t) := show _ = _ from by rw [show txTs (p.terms.take (i + 1)) = txTs (p.terms.take i) ++ (32 :: txT t) from flat_takeS _ ht, List.append_assoc]
                have HA := hidX (fun o => (Below.refl _ _).alloc (Nat.le_refl _) o : ∀ o, Below wr.heap.size wr (wr.alloc o))
                obtain ⟨V, hV⟩ : ∃ V, V = Y3 ++ txTs (p.terms.take i) := ⟨_, rfl⟩
                have hVl : V.length ≤ 43000001000 := by rw [hV, List.length_append]; omega
                rw [← hV] at HLI
                rw [← hV]
                have z1 : ¬ 9223372036854775807 < 1 + (mkS (txT t)).size := by rw [mkS_size]; omega
                have z2 : ¬ 9223372036854775807 < (mkS V).size + (({ data := #[32] } : ByteArray) ++ mkS (txT t)).size := by rw [ByteArray.size_append, mkS_size, mkS_size, sz_one]; omega
                have z3 : ¬ 9223372036854775807 < (mkS V).size + (1 + (mkS (txT t)).size) := by rw [mkS_size, mkS_size]; omega
                clear ht hV hTi
                go_wp2_with (go_at_call 42; refine (l2Term_txt t _ hgt hnt).mono ?_; rintro e w5 ⟨rfl, hb5⟩)
                go_roundw
                case rel => exact ⟨i + 1, by omega, by go_num, by rw [cat_sp, HLI.out], HBi.out.trans (((HA.out _).trans (hb5.mono (HA.out _).size)).mono hszi)⟩
                case measure => (simp [intOf]; omega)
              · obtain rfl : i = p.terms.length := by omega
                have j1 : ¬ (p.terms.length : Int) < (p.terms.length : Int) := by omega
                rw [List.take_length]
                obtain ⟨V, hV⟩ : ∃ V, V = Y3 ++ txTs p.terms := ⟨_, rfl⟩
                have hVl : V.length ≤ 43000001000 := by rw [hV, List.length_append]; omega
                have HVV := hidX hV
                rw [← hV]
                have z1 : ¬ 9223372036854775807 < (mkS V).size + 1 := by rw [mkS_size]; omega
                have z2 : ¬ 9223372036854775807 < (mkS V).size + ({ data := #[41] } : ByteArray).size := z1
                clear hV hTi
                go_wp2
                go_roundw
                case rel => exact ⟨j + 1, by omega, by go_num, by rw [catR V [41], HVV.out, HY3.out, HY2.out, HYN.out], HBp.out.trans (HBi.out.mono hszp)⟩
                case measure => (simp [intOf]; omega)
          · rw [hn] at u0 HNG
            clear hn
            go_upto_region 13 with fail
            refine lift_alloc ?_
            intro wp hWp hqp
            have hltp : wr1.heap.size < wp.heap.size := lt_of_block' hqp
            have p1 : wp.cell? ⟨wr1.heap.size, 1, none⟩ = some (.string (mkS cb)) := by simp [World.cell?, hqp]
            have p2 : wp.cell? ⟨wr1.heap.size, 2, none⟩ = some (.slice a_t p.terms.length c_t) := by simp [World.cell?, hqp]
            clear hqp u0 u1 u2
            rw [catR Y [10, 32, 32, 40]]
            obtain ⟨Y1, hY1⟩ : ∃ Y1, Y1 = Y ++ [10, 32, 32, 40] := ⟨_, rfl⟩
            have hY1l : Y1.length ≤ 43000000004 := by rw [hY1, List.length_append]; simp; omega
            have HY1 := hidX hY1
            rw [← hY1]
            clear hY1 z1 z2
            have z1 : ¬ 9223372036854775807 < (mkS Y1).size + 4 := by rw [mkS_size]; omega
            have z2 : ¬ 9223372036854775807 < (mkS Y1).size + ({ data := #[110, 111, 116, 32] } : ByteArray).size := z1
            go_upto_region 14 with fail
            rw [catR Y1 [110, 111, 116, 32]]
            obtain ⟨Y2, hY2⟩ : ∃ Y2, Y2 = Y1 ++ [110, 111, 116, 32] := ⟨_, rfl⟩
            have hY2l : Y2.length ≤ 43000000008 := by rw [hY2, List.length_append]; simp; omega
            have HY2 : Hid (Y2 = Y ++ [10, 32, 32, 40] ++ ng) := show _ = _ from by rw [hY2, HY1.out, HNG.out]; rfl
            rw [← hY2]
            clear hY2 z1 z2
            have z3 : ¬ 9223372036854775807 < (mkS Y2).size + (mkS cb).size := by rw [mkS_size, mkS_size]; omega
            go_upto_region 15 with fail
            rw [mkS_app Y2 cb]
            obtain ⟨Y3, hY3⟩ : ∃ Y3, Y3 = Y2 ++ cb := ⟨_, rfl⟩
            have hY3l : Y3.length ≤ 43000000028 := by rw [hY3, List.length_append]; omega
            have HY3 := hidX hY3
            rw [← hY3]
            clear hY3 z3
            have HBp := hidX (HBj.out.trans (hWp.mono hszj))
            have HWp2 := hidX (HWj.out.trans (hWp.mono HWj.out.size))
            have hszp := HBp.out.size
            go_wp2
            go_loopw [3, 51] (fun sv iv wr => ∃ i : Nat, i ≤ p.terms.length ∧ iv = .int .i64 (i : Int) ∧ sv = .string (mkS (Y3 ++ txTs (p.terms.take i))) ∧ Below wp.heap.size wp wr) (fun _ iv _ => p.terms.length - (intOf iv).toNat)
            case atStart => exact ⟨0, Nat.zero_le _, rfl, by simp [txTs], Below.refl _ _⟩
            case round =>
              obtain ⟨i, hi, rfl, rfl, hbi⟩ := hrel
              have HBi := hidX hbi
              have hszi := hbi.size
              have hTi : (txTs (p.terms.take i)).length ≤ (txTs p.terms).length := flat_take_leY _ _ _
              clear hbi p1 p2
              by_cases hil : i < p.terms.length
              · obtain ⟨t, ht⟩ : ∃ t, p.terms[i]? = some t := ⟨p.terms[i], by simp [hil]⟩
                obtain ⟨hgt, hnt⟩ := HTT.out t (List.mem_of_getElem? ht)
                have htl := txT_le hgt hnt
                obtain ⟨b, o, rfl, _, v0, v1, v2, v3, v4, v5⟩ := ((HTM.out.below hWp).below HBi.out).get ht
                have j0 : (0 : Int) ≤ (i : Int) := by omega
                have j1 : (i : Int) < (p.terms.length : Int) := by omega
                have HLI : Hid (Y3 ++ txTs (p.terms.take (i + 1)) = (Y3 ++ txTs (p.terms.take i)) ++ 32 :: txT t) := show _ = _ from by rw [show txTs (p.terms.take (i + 1)) = txTs (p.terms.take i) ++ (32 :: txT t) from flat_takeS _ ht, List.append_assoc]
                have HA := hidX (fun o => (Below.refl _ _).alloc (Nat.le_refl _) o : ∀ o, Below wr.heap.size wr (wr.alloc o))
                obtain ⟨V, hV⟩ : ∃ V, V = Y3 ++ txTs (p.terms.take i) := ⟨_, rfl⟩
                have hVl : V.length ≤ 43000001000 := by rw [hV, List.length_append]; omega
                rw [← hV] at HLI
                rw [← hV]
                have z1 : ¬ 9223372036854775807 < 1 + (mkS (txT t)).size := by rw [mkS_size]; omega
                have z2 : ¬ 9223372036854775807 < (mkS V).size + (({ data := #[32] } : ByteArray) ++ mkS (txT t)).size := by rw [ByteArray.size_append, mkS_size, mkS_size, sz_one]; omega
                have z3 : ¬ 9223372036854775807 < (mkS V).size + (1 + (mkS (txT t)).size) := by rw [mkS_size, mkS_size]; omega
                clear ht hV hTi
                go_wp2_with (go_at_call 42; refine (l2Term_txt t _ hgt hnt).mono ?_; rintro e w5 ⟨rfl, hb5⟩)
                go_roundw
                case rel => exact ⟨i + 1, by omega, by go_num, by rw [cat_sp, HLI.out], HBi.out.trans (((HA.out _).trans (hb5.mono (HA.out _).size)).mono hszi)⟩
                case measure => (simp [intOf]; omega)
              · obtain rfl : i = p.terms.length := by omega
                have j1 : ¬ (p.terms.length : Int) < (p.terms.length : Int) := by omega
                rw [List.take_length]
                obtain ⟨V, hV⟩ : ∃ V, V = Y3 ++ txTs p.terms := ⟨_, rfl⟩
                have hVl : V.length ≤ 43000001000 := by rw [hV, List.length_append]; omega
                have HVV := hidX hV
                rw [← hV]
                have z1 : ¬ 9223372036854775807 < (mkS V).size + 1 := by rw [mkS_size]; omega
                have z2 : ¬ 9223372036854775807 < (mkS V).size + ({ data := #[41] } : ByteArray).size := z1
                clear hV hTi
                go_wp2
                go_roundw
                case rel => exact ⟨j + 1, by omega, by go_num, by rw [catR V [41], HVV.out, HY3.out, HY2.out, HYN.out], HBp.out.trans (HBi.out.mono hszp)⟩
                case measure => (simp [intOf]; omega)
        · obtain rfl : j = x.pats.length := by omega
          have i1 : ¬ (x.pats.length : Int) < (x.pats.length : Int) := by omega
          rw [List.take_length]
          obtain ⟨Y, hY⟩ : ∃ Y, Y = X ++ (hd ++ txPs x.pats) := ⟨_, rfl⟩
          have hYl : Y.length ≤ 43000000000 := by rw [hY, List.length_append, List.length_append]; omega
          have HY := hidX hY
          rw [← hY]
          clear hY hPj
          obtain ⟨wr1, hwr1⟩ : ∃ u, u = wr := ⟨wr, rfl⟩
          rw [← hwr1] at HBj hszj HWj ⊢
          clear hwr1
          have z1 : ¬ 9223372036854775807 < (mkS Y).size + 5 := by rw [mkS_size]; omega
          have z2 : ¬ 9223372036854775807 < (mkS Y).size + ({ data := #[10, 32, 32, 61, 62] } : ByteArray).size := z1
          go_upto_region 23 with fail
          rw [catR Y [10, 32, 32, 61, 62]]
          obtain ⟨Z, hZ⟩ : ∃ Z, Z = Y ++ [10, 32, 32, 61, 62] := ⟨_, rfl⟩
          have hZl : Z.length ≤ 43100000000 := by rw [hZ, List.length_append]; simp; omega
          have HZ := hidX hZ
          rw [← hZ]
          clear hZ
          have hq := HBK.out wr1 HBj.out
          have e4 : wr1.cell? ⟨wo.heap.size, 4, none⟩ = some (.slice a3 x.acts.length c3) := by simp [World.cell?, hq]
          clear hq z1 z2
          go_wp2
          go_loopw [3, 69] (fun sv iv wr => ∃ m : Nat, m ≤ x.acts.length ∧ iv = .int .i64 (m : Int) ∧ sv = .string (mkS (Z ++ txAs x.exprs (x.acts.take m))) ∧ Below wb.heap.size wb wr) (fun _ iv _ => x.acts.length - (intOf iv).toNat)
          case atStart => exact ⟨0, Nat.zero_le _, rfl, by simp [txAs], HBj.out⟩
          case round =>
            obtain ⟨m, hm, rfl, rfl, hbm⟩ := hrel
            have HBm := hidX hbm
            have hszm := hbm.size
            have HWm := hidX (hWb.trans (hbm.mono hWb.size))
            have hAm : (txAs x.exprs (x.acts.take m)).length ≤ (txAs x.exprs x.acts).length := flat_take_leY _ _ _
            have hq := HBK.out wr hbm
            have f0 : wr.cell? ⟨wo.heap.size, 0, none⟩ = some (.string (mkS nb)) := by simp [World.cell?, hq]
            have f1 : wr.cell? ⟨wo.heap.size, 1, none⟩ = some (.int .i64 x.sal) := by simp [World.cell?, hq]
            have f2 : wr.cell? ⟨wo.heap.size, 2, none⟩ = some (.slice a1 x.pats.length c1) := by simp [World.cell?, hq]
            have f3 : wr.cell? ⟨wo.heap.size, 3, none⟩ = some (.slice a2 x.exprs.length c2) := by simp [World.cell?, hq]
            have f4 : wr.cell? ⟨wo.heap.size, 4, none⟩ = some (.slice a3 x.acts.length c3) := by simp [World.cell?, hq]
            clear hq hbm e4 HBj
            by_cases hml : m < x.acts.length
            · obtain ⟨y, hy⟩ : ∃ p, x.acts[m]? = some p := ⟨x.acts[m], by simp [hml]⟩
              have hyt := HAA.out y (List.mem_of_getElem? hy)
              have hyl := txA_le hES hyt
              obtain ⟨b, o, a_g, c_g, rfl, _, v0, v1, v2, v3, htm⟩ := (HAC.out.below HWm.out).get hy
              have HTM := hidX htm
              have i0 : (0 : Int) ≤ (m : Int) := by omega
              have i1 : (m : Int) < (x.acts.length : Int) := by omega
              have HLT : Hid (Z ++ txAs x.exprs (x.acts.take (m + 1)) = (Z ++ txAs x.exprs (x.acts.take m)) ++ (lineB ++ txA x.exprs y)) := show _ = _ from by rw [show txAs x.exprs (x.acts.take (m + 1)) = txAs x.exprs (x.acts.take m) ++ (lineB ++ txA x.exprs y) from flat_takeS _ hy, List.append_assoc]
              have HA := hidX (fun o => (Below.refl _ _).alloc (Nat.le_refl _) o : ∀ o, Below wr.heap.size wr (wr.alloc o))
              have HER := hidX (fun o => (HEX.out.below HWm.out).below (HA.out o))
              obtain ⟨V, hV⟩ : ∃ V, V = Z ++ txAs x.exprs (x.acts.take m) := ⟨_, rfl⟩
              obtain ⟨T, hTe⟩ : ∃ T, T = txA x.exprs y := ⟨_, rfl⟩
              have hVl : V.length ≤ 46000000000 := by rw [hV, List.length_append]; omega
              rw [← hV, ← hTe] at HLT
              rw [← hTe] at hyl
              rw [← hV]
              have LA : Hid (∀ w', ExsAt q w' a2 x.exprs → IntsAt q w' a_g y.args → Calls Tryz.prog 43 #[.agg #[.string (mkS nb), .int .i64 x.sal, .slice a1 x.pats.length c1, .slice a2 x.exprs.length c2, .slice (some ⟨b, o, none⟩) x.acts.length c3], .agg #[.int .i64 y.kind, .int .i64 y.k, .string y.cls, .slice a_g y.args.length c_g]] w' fun e w'' => e = .returned (.string (mkS T)) ∧ Below w'.heap.size w' w'') := fun w' h1 h2 => by rw [hTe]; exact lAct_any (mkS nb) x.sal a1 _ c1 (some ⟨b, o, none⟩) _ c3 y a_g c_g hES hyt a2 c2 q w' h1 h2
              have z1 : ¬ 9223372036854775807 < 3 + (mkS T).size := by rw [mkS_size]; omega
              have z2 : ¬ 9223372036854775807 < (mkS V).size + (({ data := #[10, 32, 32] } : ByteArray) ++ mkS T).size := by rw [ByteArray.size_append, mkS_size, mkS_size]; have : ({ data := #[10, 32, 32] } : ByteArray).size = 3 := rfl; omega
              have z3 : ¬ 9223372036854775807 < (mkS V).size + (3 + (mkS T).size) := by rw [mkS_size, mkS_size]; omega
              have hwl : wo.heap.size < wr.heap.size := by omega
              clear hy htm hV hTe hAm
              go_wp2_with (go_at_call 43; refine (LA.out _ (HER.out _) (HTM.out.below (HA.out _))).mono ?_; rintro e w5 ⟨rfl, hb5⟩)
              go_roundw
              case rel => exact ⟨m + 1, by omega, by go_num, by rw [catL, HLT.out], HBm.out.trans (((HA.out _).trans (hb5.mono (HA.out _).size)).mono hszm)⟩
              case measure => (simp [intOf]; omega)
            · obtain rfl : m = x.acts.length := by omega
              have i1 : ¬ (x.acts.length : Int) < (x.acts.length : Int) := by omega
              rw [List.take_length]
              obtain ⟨V, hV⟩ : ∃ V, V = Z ++ txAs x.exprs x.acts := ⟨_, rfl⟩
              have hVl : V.length ≤ 46000000000 := by rw [hV, List.length_append]; omega
              have HVV := hidX hV
              rw [← hV]
              have z1 : ¬ 9223372036854775807 < (mkS V).size + 2 := by rw [mkS_size]; omega
              have z2 : ¬ 9223372036854775807 < (mkS V).size + ({ data := #[41, 10] } : ByteArray).size := z1
              have HF := hidX (show Below w.heap.size w wr from HB.out.trans (HWm.out.mono hsz))
              clear hV hAm
              go_wp2
              go_roundw
              case rel => exact ⟨k + 1, by omega, by go_num, by rw [catR V [41, 10], HVV.out, HZ.out, HY.out, ← HXR.out]; simp [lineB, thenB], HF.out⟩
              case measure => (simp [intOf]; omega)
    · obtain rfl : k = rs.length := by omega
      have i1 : ¬ (rs.length : Int) < (rs.length : Int) := by omega
      rw [List.take_length]
      have hcv := Lib.run_convert_string_bytes wr 9 22 5 (mkS (txRs rs)) Tryz.underlying9 Tryz.underlying22 Tryz.underlying5
      rw [mkS_size] at hcv
      have HBW := hidX (Lib.bytesWorld_below wr 5 (mkS (txRs rs)))
      have HCL := hidX (fun j hj => Lib.bytesWorld_cell wr 5 (mkS (txRs rs)) j hj)
      have HSZ := hidX (show wr.heap.size < (Lib.bytesWorld wr 5 (mkS (txRs rs))).heap.size by unfold Lib.bytesWorld; simp [World.freeze])
      go_wp2
      go_ret
      refine ⟨⟨some ⟨wr.heap.size, 0, none⟩, _, rfl, fun j x hx => ?_⟩, HB.out.trans (HBW.out.mono hsz)⟩
      have hj : j < (txRs rs).length := (List.getElem?_eq_some_iff.1 hx).1
      have h1 := HCL.out j (by rw [mkS_size]; exact hj)
      refine ⟨wr.heap.size, 0, rfl, HSZ.out, ?_⟩
      rw [Nat.zero_add, h1]
      have h2 : (mkS (txRs rs)).data.toList = txRs rs := rfl
      rw [h2, List.getD, hx]
      rfl

set_option maxHeartbeats 800000 in
theorem sPrint_any (rs : List Ru) (a : Option Addr) (c : Nat) (q : Option Nat) (w : World) (hv : RusAt q w a rs) (hc : rs.length ≤ c) (hle : ListLe Ru.le 1048576 rs) (ho : ∀ x ∈ rs, OpsOk x.exprs) (hn : ∀ x ∈ rs, RuN x) :
    Calls Tryz.prog 20 #[.slice a rs.length c] w (SPost w (prnt rs)) := by
  have HC := hidX (l2Checked_anyN rs a c w hv hc hle ho)
  by_cases hp : (chk rs).1 = 0
  · obtain ⟨h16, hT⟩ := chk_T hp hn
    have e : prnt rs = txRs rs := if_pos hp
    rw [e]
    rw [decide_eq_true hp] at HC
    exact sPrint_yes rs a c q w hv h16 hT HC
  · have e : prnt rs = [] := if_neg hp
    rw [e]
    rw [decide_eq_false hp] at HC
    clear hv hle ho hn hp e
    go_enter Tryz.func20, Tryz.ntmps20
    go_wp2_with (go_at_call 40; with_reducible refine HC.out.mono ?_; rintro e w1 ⟨rfl, hb1⟩)
    go_ret
    exact ⟨⟨none, 0, rfl, fun j x hx => by simp at hx⟩, hb1⟩
end Go.Proofs.YtfgpcjdjbbhdmaaGreatDoor
