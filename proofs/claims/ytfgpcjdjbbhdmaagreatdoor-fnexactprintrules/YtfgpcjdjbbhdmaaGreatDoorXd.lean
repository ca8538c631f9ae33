/-
  OUR OWN TEXT. Tx5, Tx6, one behind the other.
-/
import Derived.Test.YtfgpcjdjbbhdmaaGreatDoorTx4m
import Derived.Test.YtfgpcjdjbbhdmaaGreatDoorZs
import Derived.Test.YtfgpcjdjbbhdmaaGreatDoorShf
import Derived.Deep.DeepCutAuto
namespace Go.Proofs.YtfgpcjdjbbhdmaaGreatDoor
open Go.RowKit
attribute [local go_sem ↓] Go.wp_at_zero Go.wp_at_succ

/-- The variables that texts lean on. -/
def VarsAt (w : World) : Prop := Lib.TabIs Tryz.prog w "internal/strconv.uint64pow10" .u64 Lib.pow10Tab ∧ TestsAt w 1 1
theorem tab_named : Tryz.prog.globalNamed "internal/strconv.uint64pow10" = some 2 := by kernel_rfl
theorem VarsAt.below {w w' : World} (h : VarsAt w) (hb : Below w.heap.size w w') : VarsAt w' := by
  refine ⟨?_, h.2.below hb⟩
  have h1 := h.1
  unfold Lib.TabIs World.var? at h1 ⊢
  rw [tab_named] at h1 ⊢
  simp only [Option.bind_some] at h1 ⊢
  have hlt : 2 < w.heap.size := by
    by_cases hp : 2 < w.heap.size
    · exact hp
    · rw [Array.getElem?_eq_none (by omega)] at h1
      simp at h1
  rw [hb.block _ hlt]
  exact h1
theorem grow_bel (w : World) (q : Nat) (os : Array Obj) : Below w.heap.size w (Go.Sort.grow (w.drewN q) os) :=
  ⟨rfl, rfl, rfl, by simp [Go.Sort.grow], fun k hk => by
    show ((w.drewN q).heap ++ os)[k]? = _
    rw [Array.getElem?_append_left (by exact hk)]
    rfl⟩
theorem fmtInt_any (n : Int) (w : World) (hV : VarsAt w) (hn : numOk n) : Calls Tryz.prog 91 #[.int .i64 n, .int .i64 10] w fun e w' => e = .returned (.string (mkS (Lib.itoa n))) ∧ Below w.heap.size w w' :=
  (Tryz.strconv_FormatInt_10 n hn.1 hn.2 w hV.1).mono fun e w' ⟨h1, k, os, h2⟩ => ⟨h1, by rw [h2]; exact grow_bel w k os⟩
theorem itoa_any (n : Int) (w : World) (hV : VarsAt w) (hn : numOk n) : Calls Tryz.prog 144 #[.int .i64 n] w fun e w' => e = .returned (.string (mkS (Lib.itoa n))) ∧ Below w.heap.size w w' :=
  (Tryz.strconv_Itoa n hn.1 hn.2 w hV.1).mono fun e w' ⟨h1, k, os, h2⟩ => ⟨h1, by rw [h2]; exact grow_bel w k os⟩

/-- Texts that lie in a row. -/
def StrC (w : World) (b o : Nat) (xs : List Bs) : Prop := ∀ (j : Nat) x, xs[j]? = some x → w.cell? ⟨b, o + j, none⟩ = some (.string (mkS x))
theorem StrC.below {w w' : World} {b o : Nat} {xs : List Bs} (h : StrC w b o xs) (hb : Below w.heap.size w w') : StrC w' b o xs := fun j x hx => cell_below hb (h j x hx)
theorem StrC.block {w : World} {b : Nat} {t : TypeId} {xs : List Bs} (h : w.heap[b]? = some (.cells (xs.map fun x => Value.string (mkS x)).toArray t (0, 0))) : StrC w b 0 xs := by
  intro j x hx
  simp [World.cell?, h, hx]
theorem StrC.owns {w : World} {base n : Nat} {a : Option Addr} {c : Nat} {xs : List Bs} (h : w.ownsRow base 9 1 (.slice a n c) n (xs.map fun x => Value.string (mkS x))) (h1 : 1 ≤ xs.length) : ∃ b, a = some ⟨b, 0, none⟩ ∧ StrC w b 0 xs ∧ b < w.heap.size := by
  obtain ⟨x0, hx0⟩ : ∃ x, xs[0]? = some x := ⟨xs[0], by simp⟩
  obtain ⟨g, hg, _, hc, _⟩ := owns_cell h (j := 0) (x := .string (mkS x0)) (by simp [hx0])
  refine ⟨g, hg, fun j x hx => ?_, World.block_lt_of_cell? _ _ hc⟩
  obtain ⟨g', hg', _, hc', _⟩ := owns_cell h (j := j) (x := .string (mkS x)) (by simp [hx])
  rw [hg] at hg'
  injection hg' with e
  injection e with e1
  subst e1
  rw [Nat.zero_add]
  exact hc'
theorem join_any (b o c : Nat) (xs : List Bs) (sep : Bs) (w : World) (hc : StrC w b o xs) (hb : b < w.heap.size) (hN : xs.length ≤ 1000) (hcap : xs.length ≤ c) (hlen : (Lib.join xs sep).length ≤ 100000000000) :
    Calls Tryz.prog 94 #[.slice (some ⟨b, o, none⟩) xs.length c, .string (mkS sep)] w fun e w' => e = .returned (.string (mkS (Lib.join xs sep))) ∧ Below w.heap.size w w' := by
  have e : ((xs.map mkS).map (·.data.toList)) = xs := by rw [List.map_map]; exact List.map_id'' (fun x => rfl) xs
  have h := Tryz.strings_Join b o c (xs.map mkS) (mkS sep) w (fun j x hx => by
    rw [List.getElem?_map] at hx
    obtain ⟨y, hy, rfl⟩ := Option.map_eq_some_iff.1 hx
    exact hc j y hy) hb (by rw [List.length_map]; omega) (by rw [List.length_map]; omega) (by rw [e]; show (Lib.join xs sep).length ≤ _; omega)
  rw [e, List.length_map] at h
  exact h
theorem cat3 (x : Bs) : ({ data := #[40] } : ByteArray) ++ mkS x ++ { data := #[41] } = mkS (40 :: (x ++ [41])) := by
  have e : ∀ x : UInt8, ({ data := #[x] } : ByteArray) = mkS [x] := fun _ => rfl
  rw [e, e, mkS_app, mkS_app]
  simp
set_option maxHeartbeats 800000 in
theorem brack_any (b o c : Nat) (xs : List Bs) (w : World) (hc : StrC w b o xs) (hb : b < w.heap.size) (hN : xs.length ≤ 1000) (hcap : xs.length ≤ c) (hlen : (Lib.join xs [32]).length ≤ 10000000000) :
    Calls Tryz.prog 142 #[.slice (some ⟨b, o, none⟩) xs.length c] w fun e w' => e = .returned (.string (mkS (40 :: (Lib.join xs [32] ++ [41])))) ∧ Below w.heap.size w w' := by
  have HJ := hidX (join_any b o c xs [32] w hc hb hN hcap (by omega))
  obtain ⟨x, hx⟩ : ∃ x, x = Lib.join xs [32] := ⟨_, rfl⟩
  rw [← hx] at HJ hlen ⊢
  clear hx hc
  have y1 : ¬ 9223372036854775807 < 1 + (mkS x).size := by rw [mkS_size]; omega
  have y2 : ¬ 9223372036854775807 < ({ data := #[40] } : ByteArray).size + (mkS x).size := by rw [mkS_size, sz_one]; omega
  have y3 : ¬ 9223372036854775807 < (({ data := #[40] } : ByteArray) ++ mkS x).size + 1 := by rw [ByteArray.size_append, mkS_size, sz_one]; omega
  have y4 : ¬ 9223372036854775807 < (({ data := #[40] } : ByteArray) ++ mkS x).size + ({ data := #[41] } : ByteArray).size := by rw [ByteArray.size_append, mkS_size, sz_one, sz_one]; omega
  go_enter Tryz.func142, Tryz.ntmps142
  go_wp2_with (go_at_call 94; refine HJ.out.mono ?_; rintro e w1 ⟨rfl, hb1⟩)
  go_ret
  exact ⟨congrArg (fun x => Ending.returned (.string x)) (cat3 x), hb1⟩

set_option maxHeartbeats 800000 in
theorem vText_any (v : V) (w : World) (hV : VarsAt w) (hn : numOk v.num) : Calls Tryz.prog 182 #[.agg #[.int .i64 v.kind, .int .i64 v.num, .string v.sym]] w fun e w' => e = .returned (.string (mkS (txV v))) ∧ Below w.heap.size w w' := by
  have hA : ∀ o, Below w.heap.size w (w.alloc o) := fun o => (Below.refl _ _).alloc (Nat.le_refl _) _
  by_cases hk : v.kind = 1
  · have HX : Hid (v.sym = mkS (txV v)) := show v.sym = mkS (txV v) from by unfold txV; rw [if_pos hk, mkS_bs]
    go_enter Tryz.func182, Tryz.ntmps182
    go_wp2
    go_ret
    refine ⟨?_, hA _⟩
    rw [← HX.out]
    rfl
  · have HX : Hid (Lib.itoa v.num = txV v) := show Lib.itoa v.num = txV v from by unfold txV; rw [if_neg hk]
    have HV := hidX (fun o => hV.below (hA o))
    clear hV
    go_enter Tryz.func182, Tryz.ntmps182
    go_wp2_with (go_at_call 91; refine (fmtInt_any v.num _ (HV.out _) hn).mono ?_; rintro e w1 ⟨rfl, hb1⟩)
    go_ret
    exact ⟨ret_txt HX.out, (hA _).trans (hb1.mono (hA _).size)⟩

set_option maxHeartbeats 800000 in
theorem oText_any (x0 x1 : Int) (t : Tm) (w : World) (hV : VarsAt w) (hn : numOk t.val.num) (hg : operandOk t = true) : Calls Tryz.prog 183 #[.agg #[.int .i64 x0, .int .i64 x1, .string t.var, .int .i64 t.val.kind, .int .i64 t.val.num, .string t.val.sym]] w fun e w' => e = .returned (.string (mkS (txO t))) ∧ Below w.heap.size w w' := by
  have hA : ∀ o, Below w.heap.size w (w.alloc o) := fun o => (Below.refl _ _).alloc (Nat.le_refl _) _
  have hsv := txO_le hg hn
  cases hv : t.var.toList.isEmpty
  · have hb : isE t.var = false := hv
    have hO : ({ data := #[63] } : ByteArray) ++ t.var = mkS (txO t) := by
      rw [txO, hb]
      exact mkS_app' t.var [63]
    have hs : ¬ 9223372036854775807 < ({ data := #[63] } : ByteArray).size + t.var.size := by
      have := congrArg ByteArray.size hO
      rw [mkS_size, ByteArray.size_append] at this
      omega
    have HO := hidX hO
    clear hO hb
    go_enter Tryz.func183, Tryz.ntmps183
    go_wp2
    go_ret
    refine ⟨?_, hA _⟩
    rw [← HO.out]
    rfl
  · have hb : isE t.var = true := hv
    have HX : Hid (txV t.val = txO t) := show txV t.val = txO t from by unfold txO; rw [hb]; rfl
    have HV := hidX (fun o => hV.below (hA o))
    clear hV hb
    go_enter Tryz.func183, Tryz.ntmps183
    go_wp2_with (go_at_call 182; refine (vText_any t.val _ (HV.out _) hn).mono ?_; rintro e w1 ⟨rfl, hb1⟩)
    go_ret
    exact ⟨ret_txt HX.out, (hA _).trans (hb1.mono (hA _).size)⟩
end Go.Proofs.YtfgpcjdjbbhdmaaGreatDoor

namespace Go.Proofs.YtfgpcjdjbbhdmaaGreatDoor
open Go.RowKit
attribute [local go_sem ↓] Go.wp_at_zero Go.wp_at_succ

set_option maxHeartbeats 1600000 in
theorem tText_any (t : Tm) (w : World) (hV : VarsAt w) (hg : gTm t = true) (hn : numOk t.val.num) : Calls Tryz.prog 141 #[.agg #[.int .i64 t.kind, .int .i64 t.op, .string t.var, .int .i64 t.val.kind, .int .i64 t.val.num, .string t.val.sym]] w fun e w' => e = .returned (.string (mkS (txT t))) ∧ Below w.heap.size w w' := by
  have hA : ∀ o, Below w.heap.size w (w.alloc o) := fun o => (Below.refl _ _).alloc (Nat.le_refl _) _
  have HV := hidX hV
  clear hV
  by_cases k1 : t.kind = 1
  · have HX : Hid (txV t.val = txT t) := show txV t.val = txT t from by unfold txT; rw [if_pos k1]
    have HW := hidX (fun o => HV.out.below (hA o))
    go_enter Tryz.func141, Tryz.ntmps141
    go_wp2_with (go_at_call 182; refine (vText_any t.val _ (HW.out _) hn).mono ?_; rintro e w1 ⟨rfl, hb1⟩)
    go_ret
    exact ⟨ret_txt HX.out, (hA _).trans (hb1.mono (hA _).size)⟩
  by_cases k2 : t.kind = 2
  · have HX : Hid (63 :: bsOf t.var = txT t) := show _ = txT t from by unfold txT; rw [if_neg k1, if_pos k2]
    have hv : t.var.size ≤ 20 := by
      simp [gTm, k2] at hg
      exact gSym_sz hg.2.1
    have hs : ¬ 9223372036854775807 < ({ data := #[63] } : ByteArray).size + t.var.size := by
      have : ({ data := #[63] } : ByteArray).size = 1 := rfl
      omega
    go_enter Tryz.func141, Tryz.ntmps141
    go_wp2
    go_ret
    refine ⟨?_, hA _⟩
    rw [← HX.out]
    exact congrArg (fun x => Ending.returned (.string x)) (mkS_app' t.var [63])
  by_cases k3 : t.kind = 3
  · have hT : 1 ≤ t.op ∧ t.op ≤ 6 ∧ operandOk t = true := by
      simp [gTm, k3] at hg
      exact hg
    obtain ⟨ho1, ho6, hopd⟩ := hT
    obtain ⟨n, hn1⟩ : ∃ n : Nat, t.op = (n : Int) := ⟨t.op.toNat, by omega⟩
    have h1n : 1 ≤ n := by omega
    have hn6 : n ≤ 6 := by omega
    obtain ⟨ob, hob⟩ : ∃ o, o = opTx.getD (n - 1) [] := ⟨_, rfl⟩
    have HX : Hid (40 :: (ob ++ 32 :: (txO t ++ [41])) = txT t) := show _ = txT t from by unfold txT; rw [if_neg k1, if_neg k2, if_pos k3, hn1, hob]; simp
    have hsv := txO_le hopd hn
    have hso := opTx_le (n - 1)
    rw [← hob] at hso
    have hlen : (Lib.join [ob, txO t] [32]).length ≤ 10000000000 := by rw [join_two]; simp; omega
    have tw : ∀ w', VarsAt w' → w'.cell? ⟨1, n, none⟩ = some (.string (mkS ob)) := fun w' h => by
      have := h.2 (n - 1) (by omega)
      rw [← hob, show 1 + (n - 1) = n by omega] at this
      exact this
    have TW := hidX tw
    have HL := hidX hlen
    have HOP := hidX hopd
    rw [hn1]
    rw [k3]
    clear hob tw hlen hsv hopd hn1 ho1 ho6 k1 k2 k3 hg
    have i0 : (0 : Int) ≤ (n : Int) := by omega
    have i7 : (n : Int) < 7 := by omega
    go_enter Tryz.func141, Tryz.ntmps141
    go_upto_region 7 with fail
    refine lift_alloc ?_
    intro wb hWb hqb
    have HVB := hidX (HV.out.below hWb)
    have c0 : wb.cell? ⟨w.heap.size, 0, none⟩ = some (.int .i64 3) := by simp [World.cell?, hqb]
    have c1 : wb.cell? ⟨w.heap.size, 1, none⟩ = some (.int .i64 (n : Int)) := by simp [World.cell?, hqb]
    have c2 : wb.cell? ⟨w.heap.size, 2, none⟩ = some (.string t.var) := by simp [World.cell?, hqb]
    have c3 : wb.cell? ⟨w.heap.size, 3, none⟩ = some (.int .i64 t.val.kind) := by simp [World.cell?, hqb]
    have c4 : wb.cell? ⟨w.heap.size, 4, none⟩ = some (.int .i64 t.val.num) := by simp [World.cell?, hqb]
    have c5 : wb.cell? ⟨w.heap.size, 5, none⟩ = some (.string t.val.sym) := by simp [World.cell?, hqb]
    have c6 := TW.out wb HVB.out
    clear hqb
    refine wp_region_noPanic ?_
    refine wp_region_held_drew (S := (fun w' => w'.cell? ⟨w.heap.size, 0, none⟩ = some (.int .i64 3) ∧ w'.cell? ⟨w.heap.size, 1, none⟩ = some (.int .i64 (n : Int)) ∧ w'.cell? ⟨w.heap.size, 2, none⟩ = some (.string t.var) ∧ w'.cell? ⟨w.heap.size, 3, none⟩ = some (.int .i64 t.val.kind) ∧ w'.cell? ⟨w.heap.size, 4, none⟩ = some (.int .i64 t.val.num) ∧ w'.cell? ⟨w.heap.size, 5, none⟩ = some (.string t.val.sym) ∧ w'.cell? ⟨1, n, none⟩ = some (.string (mkS ob)))) (by kernel_rfl) ?_ (fun hHeld => ?_)
    · (try dsimp only)
      exact ⟨c0, c1, c2, c3, c4, c5, c6⟩
    refine tk 0 hHeld ?_
    (try simp only [pA, pZ, pS])
    refine tk 1 hHeld ?_
    (try simp only [pA, pZ, pS])
    refine tk 2 hHeld ?_
    (try simp only [pA, pZ, pS])
    refine tk 3 hHeld ?_
    (try simp only [pA, pZ, pS])
    refine tk 4 hHeld ?_
    (try simp only [pA, pZ, pS])
    refine wpAnyH_ready (rs := [5]) (by kernel_rfl) (by simp) ?_
    refine AllReadyH.cons (List.getElem?_toArray.trans rfl) (fun K hK => ?_) AllReadyH.nil
    go_simp
    go_at_call 183; refine (oText_any 3 (n : Int) t _ (HVB.out.below (Below.refl _ _).drew) hn HOP.out).mono ?_; rintro e' w1 ⟨rfl, hb1⟩
    (try go_wp2_with fail)
    refine hK.out _ _ ?hS1 (fun hHeld' => ?rest1)
    case hS1 => ((try dsimp only); exact ⟨cell_below hb1 hHeld.1, cell_below hb1 hHeld.2.1, cell_below hb1 hHeld.2.2.1, cell_below hb1 hHeld.2.2.2.1, cell_below hb1 hHeld.2.2.2.2.1, cell_below hb1 hHeld.2.2.2.2.2.1, cell_below hb1 hHeld.2.2.2.2.2.2⟩)
    clear hK K
    (first | simp only [pA, pZ, pS] | simp only [pN] | skip)
    clear hHeld
    have hHeld := hHeld'
    clear hHeld'
    have hA1 : ∀ o, Below w1.heap.size w1 (w1.alloc o) := fun o => (Below.refl _ _).alloc (Nat.le_refl _) _
    refine wpAnyH_ready (rs := [6]) (by kernel_rfl) (by simp) ?_
    refine AllReadyH.cons (List.getElem?_toArray.trans rfl) (fun K hK => ?_) AllReadyH.nil
    go_simp
    refine hK.out _ _ ?hS2 (fun hHeld' => ?rest2)
    case hS2 => ((try dsimp only); exact ⟨cell_below (hA1 _) hHeld.1, cell_below (hA1 _) hHeld.2.1, cell_below (hA1 _) hHeld.2.2.1, cell_below (hA1 _) hHeld.2.2.2.1, cell_below (hA1 _) hHeld.2.2.2.2.1, cell_below (hA1 _) hHeld.2.2.2.2.2.1, cell_below (hA1 _) hHeld.2.2.2.2.2.2⟩)
    clear hK K
    (first | simp only [pA, pZ, pS] | simp only [pN] | skip)
    clear hHeld
    have hHeld := hHeld'
    clear hHeld'
    refine wpAnyH_ready (rs := [7]) (by kernel_rfl) (by simp) ?_
    refine AllReadyH.cons (List.getElem?_toArray.trans rfl) (fun K hK => ?_) AllReadyH.nil
    go_simp
    go_at_call 142; refine (brack_any w1.heap.size 0 2 [ob, txO t] _ (StrC.block (heap_alloc_new _ _)) (by simp) (by simp) (by simp) HL.out).mono ?_; rintro e' w2 ⟨rfl, hb2⟩
    (try go_wp2_with fail)
    refine hK.out _ _ ?hS3 (fun hHeld' => ?rest3)
    case hS3 => ((try dsimp only); exact ⟨cell_below hb2 hHeld.1, cell_below hb2 hHeld.2.1, cell_below hb2 hHeld.2.2.1, cell_below hb2 hHeld.2.2.2.1, cell_below hb2 hHeld.2.2.2.2.1, cell_below hb2 hHeld.2.2.2.2.2.1, cell_below hb2 hHeld.2.2.2.2.2.2⟩)
    clear hK K
    (first | simp only [pA, pZ, pS] | simp only [pN] | skip)
    clear hHeld
    have hHeld := hHeld'
    clear hHeld'
    refine tk 8 hHeld ?_
    (try simp only [pA, pZ, pS])
    refine wpAnyH_done (by kernel_rfl) ?_ _
    refine NoPanic.normal ?_
    go_wp2
    go_ret
    refine ⟨ret_txt ?_, hWb.trans (((Below.refl wb.heap.size wb).drew.trans ((hb1.trans (((hA1 _).trans (hb2.mono (hA1 _).size)).mono hb1.size)).mono (by simp))).mono hWb.size)⟩
    rw [← HX.out, join_two]
    simp
  · have HX : Hid ([95] = txT t) := show _ = txT t from by unfold txT; rw [if_neg k1, if_neg k2, if_neg k3]
    go_enter Tryz.func141, Tryz.ntmps141
    go_wp2
    go_ret
    exact ⟨ret_txt HX.out, hA _⟩
end Go.Proofs.YtfgpcjdjbbhdmaaGreatDoor
