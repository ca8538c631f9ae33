/-
  OUR OWN TEXT. RdS, Tx5, Tx6, Tx7, Tx8, Tx9, Tx10, Tx11, Sm3, one behind the other.
-/
import Derived.Test.YtjjjagepnnbebaaGreatDoorKan
import Derived.Test.YtjjjagepnnbebaaGreatDoorKaq
import Derived.Test.YtjjjagepnnbebaaGreatDoorKap
import Derived.Test.YtjjjagepnnbebaaGreatDoorShf
import Derived.Deep.DeepCutAuto
namespace Go.Proofs.YtjjjagepnnbebaaGreatDoor
open Go.RowKit Go.Deep

theorem cellsU8s : Tryz.prog.cellsOf 5 = 1 := by kernel_rfl
theorem wfU8s {a : Int} (h : (Lit.int .u8 a).wf = true) : 0 ≤ a ∧ a < 256 := by
  have h0 : IntKind.u8.min = 0 := rfl
  have h1 : IntKind.u8.max = 255 := rfl
  simp [Lit.wf] at h
  omega
section
variable {H : Type} {enc : TypeId × Value → H} {w : World} {base : Nat} {spare : Nat → Bool} {held : Bool}
theorem rd_text {n : Nat} {cs : List Value} {x : DataW H × List MemPlace} (h : DataW.trod enc Tryz.prog w base spare held n 22 cs = some x) : ∃ a c, ∃ l : Bs, cs = [.slice a l.length c] ∧ BysAt w a l ∧ l.length ≤ maxLen := by
  obtain ⟨a, c, vs, e, hR, _, hm, _⟩ := rd_rows (R := fun _ r (u : UInt8) => r = [.int .u8 (u.toNat : Int)]) (Ok := fun _ => True) (0 : UInt8) 22 5 5 1 Tryz.underlying22 cellsU8s (by omega) (fun n cs x h hc => by
    match cs, hc with
    | [v0], _ =>
      obtain ⟨k, e0, _, wf0⟩ := DataW.trod_int Tryz.underlying5 h
      obtain ⟨h1, h2⟩ := wfU8s wf0
      refine ⟨UInt8.ofNat k.toNat, ?_, trivial⟩
      have : (UInt8.ofNat k.toNat).toNat = k.toNat := by
        simp
        omega
      rw [e0, this, Int.toNat_of_nonneg h1]) h
  refine ⟨a, c, vs, e, fun j y hy => ?_, hm⟩
  obtain ⟨b, o, r, e1, _, _, hc, hr⟩ := hR j y hy
  have h0 := hc 0 _ (by rw [hr]; rfl)
  refine ⟨b, o, e1, ?_, ?_⟩
  · exact World.block_lt_of_cell? w ⟨b, _, none⟩ h0
  · simpa using h0
end
end Go.Proofs.YtjjjagepnnbebaaGreatDoor

namespace Go.Proofs.YtjjjagepnnbebaaGreatDoor
open Go.RowKit
attribute [local go_sem ↓] Go.wp_at_zero Go.wp_at_succ

/-- The variables that texts lean on. -/
def VarsAt (w : World) : Prop := Lib.TabIs Tryz.prog w "internal/strconv.uint64pow10" .u64 Lib.pow10Tab ∧ TestsAt w 1 1
theorem tab_named : Tryz.prog.globalNamed "internal/strconv.uint64pow10" = some 2 := by kernel_rfl
theorem VarsAt.below {w w' : World} (h : VarsAt w) (hb : Below w.heap.size w w') : VarsAt w' := by
  refine ⟨?_, h.2.below hb⟩
  have h1 := h.1
  unfold Lib.TabIs World.var? at h1 ⊢
  rw [tab_named] at h1 ⊢
  simp only [Option.bind_some] at h1 ⊢
  have hlt : 2 < w.heap.size := by
    by_cases hp : 2 < w.heap.size
    · exact hp
    · rw [Array.getElem?_eq_none (by omega)] at h1
      simp at h1
  rw [hb.block _ hlt]
  exact h1
theorem grow_bel (w : World) (q : Nat) (os : Array Obj) : Below w.heap.size w (Go.Sort.grow (w.drewN q) os) :=
  ⟨rfl, rfl, rfl, by simp [Go.Sort.grow], fun k hk => by
    show ((w.drewN q).heap ++ os)[k]? = _
    rw [Array.getElem?_append_left (by exact hk)]
    rfl⟩
theorem fmtInt_any (n : Int) (w : World) (hV : VarsAt w) (hn : numOk n) : Calls Tryz.prog 31 #[.int .i64 n, .int .i64 10] w fun e w' => e = .returned (.string (mkS (Lib.itoa n))) ∧ Below w.heap.size w w' :=
  (Tryz.strconv_FormatInt_10 n hn.1 hn.2 w hV.1).mono fun e w' ⟨h1, k, os, h2⟩ => ⟨h1, by rw [h2]; exact grow_bel w k os⟩
theorem itoa_any (n : Int) (w : World) (hV : VarsAt w) (hn : numOk n) : Calls Tryz.prog 74 #[.int .i64 n] w fun e w' => e = .returned (.string (mkS (Lib.itoa n))) ∧ Below w.heap.size w w' :=
  (Tryz.strconv_Itoa n hn.1 hn.2 w hV.1).mono fun e w' ⟨h1, k, os, h2⟩ => ⟨h1, by rw [h2]; exact grow_bel w k os⟩

/-- Texts that lie in a row. -/
def StrC (w : World) (b o : Nat) (xs : List Bs) : Prop := ∀ (j : Nat) x, xs[j]? = some x → w.cell? ⟨b, o + j, none⟩ = some (.string (mkS x))
theorem StrC.below {w w' : World} {b o : Nat} {xs : List Bs} (h : StrC w b o xs) (hb : Below w.heap.size w w') : StrC w' b o xs := fun j x hx => cell_below hb (h j x hx)
theorem StrC.block {w : World} {b : Nat} {t : TypeId} {xs : List Bs} (h : w.heap[b]? = some (.cells (xs.map fun x => Value.string (mkS x)).toArray t (0, 0))) : StrC w b 0 xs := by
  intro j x hx
  simp [World.cell?, h, hx]
theorem StrC.owns {w : World} {base n : Nat} {a : Option Addr} {c : Nat} {xs : List Bs} (h : w.ownsRow base 9 1 (.slice a n c) n (xs.map fun x => Value.string (mkS x))) (h1 : 1 ≤ xs.length) : ∃ b, a = some ⟨b, 0, none⟩ ∧ StrC w b 0 xs ∧ b < w.heap.size := by
  obtain ⟨x0, hx0⟩ : ∃ x, xs[0]? = some x := ⟨xs[0], by simp⟩
  obtain ⟨g, hg, _, hc, _⟩ := owns_cell h (j := 0) (x := .string (mkS x0)) (by simp [hx0])
  refine ⟨g, hg, fun j x hx => ?_, World.block_lt_of_cell? _ _ hc⟩
  obtain ⟨g', hg', _, hc', _⟩ := owns_cell h (j := j) (x := .string (mkS x)) (by simp [hx])
  rw [hg] at hg'
  injection hg' with e
  injection e with e1
  subst e1
  rw [Nat.zero_add]
  exact hc'
theorem join_any (b o c : Nat) (xs : List Bs) (sep : Bs) (w : World) (hc : StrC w b o xs) (hb : b < w.heap.size) (hN : xs.length ≤ 1000) (hcap : xs.length ≤ c) (hlen : (Lib.join xs sep).length ≤ 100000000000) :
    Calls Tryz.prog 34 #[.slice (some ⟨b, o, none⟩) xs.length c, .string (mkS sep)] w fun e w' => e = .returned (.string (mkS (Lib.join xs sep))) ∧ Below w.heap.size w w' := by
  have e : ((xs.map mkS).map (·.data.toList)) = xs := by rw [List.map_map]; exact List.map_id'' (fun x => rfl) xs
  have h := Tryz.strings_Join b o c (xs.map mkS) (mkS sep) w (fun j x hx => by
    rw [List.getElem?_map] at hx
    obtain ⟨y, hy, rfl⟩ := Option.map_eq_some_iff.1 hx
    exact hc j y hy) hb (by rw [List.length_map]; omega) (by rw [List.length_map]; omega) (by rw [e]; show (Lib.join xs sep).length ≤ _; omega)
  rw [e, List.length_map] at h
  exact h
theorem cat3 (x : Bs) : ({ data := #[40] } : ByteArray) ++ mkS x ++ { data := #[41] } = mkS (40 :: (x ++ [41])) := by
  have e : ∀ x : UInt8, ({ data := #[x] } : ByteArray) = mkS [x] := fun _ => rfl
  rw [e, e, mkS_app, mkS_app]
  simp
set_option maxHeartbeats 800000 in
theorem brack_any (b o c : Nat) (xs : List Bs) (w : World) (hc : StrC w b o xs) (hb : b < w.heap.size) (hN : xs.length ≤ 1000) (hcap : xs.length ≤ c) (hlen : (Lib.join xs [32]).length ≤ 10000000000) :
    Calls Tryz.prog 72 #[.slice (some ⟨b, o, none⟩) xs.length c] w fun e w' => e = .returned (.string (mkS (40 :: (Lib.join xs [32] ++ [41])))) ∧ Below w.heap.size w w' := by
  have HJ := hidX (join_any b o c xs [32] w hc hb hN hcap (by omega))
  obtain ⟨x, hx⟩ : ∃ x, x = Lib.join xs [32] := ⟨_, rfl⟩
  rw [← hx] at HJ hlen ⊢
  clear hx hc
  have y1 : ¬ 9223372036854775807 < 1 + (mkS x).size := by rw [mkS_size]; omega
  have y2 : ¬ 9223372036854775807 < ({ data := #[40] } : ByteArray).size + (mkS x).size := by rw [mkS_size, sz_one]; omega
  have y3 : ¬ 9223372036854775807 < (({ data := #[40] } : ByteArray) ++ mkS x).size + 1 := by rw [ByteArray.size_append, mkS_size, sz_one]; omega
  have y4 : ¬ 9223372036854775807 < (({ data := #[40] } : ByteArray) ++ mkS x).size + ({ data := #[41] } : ByteArray).size := by rw [ByteArray.size_append, mkS_size, sz_one, sz_one]; omega
  go_enter Tryz.func72, Tryz.ntmps72
  go_wp2_with (go_at_call 34; refine HJ.out.mono ?_; rintro e w1 ⟨rfl, hb1⟩)
  go_ret
  exact ⟨congrArg (fun x => Ending.returned (.string x)) (cat3 x), hb1⟩

set_option maxHeartbeats 800000 in
theorem vText_any (v : V) (w : World) (hV : VarsAt w) (hn : numOk v.num) : Calls Tryz.prog 121 #[.agg #[.int .i64 v.kind, .int .i64 v.num, .string v.sym]] w fun e w' => e = .returned (.string (mkS (txV v))) ∧ Below w.heap.size w w' := by
  have hA : ∀ o, Below w.heap.size w (w.alloc o) := fun o => (Below.refl _ _).alloc (Nat.le_refl _) _
  by_cases hk : v.kind = 1
  · have HX : Hid (v.sym = mkS (txV v)) := show v.sym = mkS (txV v) from by unfold txV; rw [if_pos hk, mkS_bs]
    go_enter Tryz.func121, Tryz.ntmps121
    go_wp2
    go_ret
    refine ⟨?_, hA _⟩
    rw [← HX.out]
    rfl
  · have HX : Hid (Lib.itoa v.num = txV v) := show Lib.itoa v.num = txV v from by unfold txV; rw [if_neg hk]
    have HV := hidX (fun o => hV.below (hA o))
    clear hV
    go_enter Tryz.func121, Tryz.ntmps121
    go_wp2_with (go_at_call 31; refine (fmtInt_any v.num _ (HV.out _) hn).mono ?_; rintro e w1 ⟨rfl, hb1⟩)
    go_ret
    exact ⟨ret_txt HX.out, (hA _).trans (hb1.mono (hA _).size)⟩

set_option maxHeartbeats 800000 in
theorem oText_any (x0 x1 : Int) (t : Tm) (w : World) (hV : VarsAt w) (hn : numOk t.val.num) (hg : operandOk t = true) : Calls Tryz.prog 122 #[.agg #[.int .i64 x0, .int .i64 x1, .string t.var, .int .i64 t.val.kind, .int .i64 t.val.num, .string t.val.sym]] w fun e w' => e = .returned (.string (mkS (txO t))) ∧ Below w.heap.size w w' := by
  have hA : ∀ o, Below w.heap.size w (w.alloc o) := fun o => (Below.refl _ _).alloc (Nat.le_refl _) _
  have hsv := txO_le hg hn
  cases hv : t.var.toList.isEmpty
  · have hb : isE t.var = false := hv
    have hO : ({ data := #[63] } : ByteArray) ++ t.var = mkS (txO t) := by
      rw [txO, hb]
      exact mkS_app' t.var [63]
    have hs : ¬ 9223372036854775807 < ({ data := #[63] } : ByteArray).size + t.var.size := by
      have := congrArg ByteArray.size hO
      rw [mkS_size, ByteArray.size_append] at this
      omega
    have HO := hidX hO
    clear hO hb
    go_enter Tryz.func122, Tryz.ntmps122
    go_wp2
    go_ret
    refine ⟨?_, hA _⟩
    rw [← HO.out]
    rfl
  · have hb : isE t.var = true := hv
    have HX : Hid (txV t.val = txO t) := show txV t.val = txO t from by unfold txO; rw [hb]; rfl
    have HV := hidX (fun o => hV.below (hA o))
    clear hV hb
    go_enter Tryz.func122, Tryz.ntmps122
    go_wp2_with (go_at_call 121; refine (vText_any t.val _ (HV.out _) hn).mono ?_; rintro e w1 ⟨rfl, hb1⟩)
    go_ret
    exact ⟨ret_txt HX.out, (hA _).trans (hb1.mono (hA _).size)⟩
end Go.Proofs.YtjjjagepnnbebaaGreatDoor

namespace Go.Proofs.YtjjjagepnnbebaaGreatDoor
open Go.RowKit
attribute [local go_sem ↓] Go.wp_at_zero Go.wp_at_succ

set_option maxHeartbeats 1600000 in
theorem tText_any (t : Tm) (w : World) (hV : VarsAt w) (hg : gTm t = true) (hn : numOk t.val.num) : Calls Tryz.prog 71 #[.agg #[.int .i64 t.kind, .int .i64 t.op, .string t.var, .int .i64 t.val.kind, .int .i64 t.val.num, .string t.val.sym]] w fun e w' => e = .returned (.string (mkS (txT t))) ∧ Below w.heap.size w w' := by
  have hA : ∀ o, Below w.heap.size w (w.alloc o) := fun o => (Below.refl _ _).alloc (Nat.le_refl _) _
  have HV := hidX hV
  clear hV
  by_cases k1 : t.kind = 1
  · have HX : Hid (txV t.val = txT t) := show txV t.val = txT t from by unfold txT; rw [if_pos k1]
    have HW := hidX (fun o => HV.out.below (hA o))
    go_enter Tryz.func71, Tryz.ntmps71
    go_wp2_with (go_at_call 121; refine (vText_any t.val _ (HW.out _) hn).mono ?_; rintro e w1 ⟨rfl, hb1⟩)
    go_ret
    exact ⟨ret_txt HX.out, (hA _).trans (hb1.mono (hA _).size)⟩
  by_cases k2 : t.kind = 2
  · have HX : Hid (63 :: bsOf t.var = txT t) := show _ = txT t from by unfold txT; rw [if_neg k1, if_pos k2]
    have hv : t.var.size ≤ 20 := by
      simp [gTm, k2] at hg
      exact gSym_sz hg.2.1
    have hs : ¬ 9223372036854775807 < ({ data := #[63] } : ByteArray).size + t.var.size := by
      have : ({ data := #[63] } : ByteArray).size = 1 := rfl
      omega
    go_enter Tryz.func71, Tryz.ntmps71
    go_wp2
    go_ret
    refine ⟨?_, hA _⟩
    rw [← HX.out]
    exact congrArg (fun x => Ending.returned (.string x)) (mkS_app' t.var [63])
  by_cases k3 : t.kind = 3
  · have hT : 1 ≤ t.op ∧ t.op ≤ 6 ∧ operandOk t = true := by
      simp [gTm, k3] at hg
      exact hg
    obtain ⟨ho1, ho6, hopd⟩ := hT
    obtain ⟨n, hn1⟩ : ∃ n : Nat, t.op = (n : Int) := ⟨t.op.toNat, by omega⟩
    have h1n : 1 ≤ n := by omega
    have hn6 : n ≤ 6 := by omega
    obtain ⟨ob, hob⟩ : ∃ o, o = opTx.getD (n - 1) [] := ⟨_, rfl⟩
    have HX : Hid (40 :: (ob ++ 32 :: (txO t ++ [41])) = txT t) := show _ = txT t from by unfold txT; rw [if_neg k1, if_neg k2, if_pos k3, hn1, hob]; simp
    have hsv := txO_le hopd hn
    have hso := opTx_le (n - 1)
    rw [← hob] at hso
    have hlen : (Lib.join [ob, txO t] [32]).length ≤ 10000000000 := by rw [join_two]; simp; omega
    have tw : ∀ w', VarsAt w' → w'.cell? ⟨1, n, none⟩ = some (.string (mkS ob)) := fun w' h => by
      have := h.2 (n - 1) (by omega)
      rw [← hob, show 1 + (n - 1) = n by omega] at this
      exact this
    have TW := hidX tw
    have HL := hidX hlen
    have HOP := hidX hopd
    rw [hn1]
    rw [k3]
    clear hob tw hlen hsv hopd hn1 ho1 ho6 k1 k2 k3 hg
    have i0 : (0 : Int) ≤ (n : Int) := by omega
    have i7 : (n : Int) < 7 := by omega
    go_enter Tryz.func71, Tryz.ntmps71
    go_upto_region 7 with fail
    refine lift_alloc ?_
    intro wb hWb hqb
    have HVB := hidX (HV.out.below hWb)
    have c0 : wb.cell? ⟨w.heap.size, 0, none⟩ = some (.int .i64 3) := by simp [World.cell?, hqb]
    have c1 : wb.cell? ⟨w.heap.size, 1, none⟩ = some (.int .i64 (n : Int)) := by simp [World.cell?, hqb]
    have c2 : wb.cell? ⟨w.heap.size, 2, none⟩ = some (.string t.var) := by simp [World.cell?, hqb]
    have c3 : wb.cell? ⟨w.heap.size, 3, none⟩ = some (.int .i64 t.val.kind) := by simp [World.cell?, hqb]
    have c4 : wb.cell? ⟨w.heap.size, 4, none⟩ = some (.int .i64 t.val.num) := by simp [World.cell?, hqb]
    have c5 : wb.cell? ⟨w.heap.size, 5, none⟩ = some (.string t.val.sym) := by simp [World.cell?, hqb]
    have c6 := TW.out wb HVB.out
    clear hqb
    refine wp_region_noPanic ?_
    refine wp_region_held_drew (S := (fun w' => w'.cell? ⟨w.heap.size, 0, none⟩ = some (.int .i64 3) ∧ w'.cell? ⟨w.heap.size, 1, none⟩ = some (.int .i64 (n : Int)) ∧ w'.cell? ⟨w.heap.size, 2, none⟩ = some (.string t.var) ∧ w'.cell? ⟨w.heap.size, 3, none⟩ = some (.int .i64 t.val.kind) ∧ w'.cell? ⟨w.heap.size, 4, none⟩ = some (.int .i64 t.val.num) ∧ w'.cell? ⟨w.heap.size, 5, none⟩ = some (.string t.val.sym) ∧ w'.cell? ⟨1, n, none⟩ = some (.string (mkS ob)))) (by kernel_rfl) ?_ (fun hHeld => ?_)
    · (try dsimp only)
      exact ⟨c0, c1, c2, c3, c4, c5, c6⟩
    refine tk 0 hHeld ?_
    (try simp only [pA, pZ, pS])
    refine tk 1 hHeld ?_
    (try simp only [pA, pZ, pS])
    refine tk 2 hHeld ?_
    (try simp only [pA, pZ, pS])
    refine tk 3 hHeld ?_
    (try simp only [pA, pZ, pS])
    refine tk 4 hHeld ?_
    (try simp only [pA, pZ, pS])
    refine wpAnyH_ready (rs := [5]) (by kernel_rfl) (by simp) ?_
    refine AllReadyH.cons (List.getElem?_toArray.trans rfl) (fun K hK => ?_) AllReadyH.nil
    go_simp
    go_at_call 122; refine (oText_any 3 (n : Int) t _ (HVB.out.below (Below.refl _ _).drew) hn HOP.out).mono ?_; rintro e' w1 ⟨rfl, hb1⟩
    (try go_wp2_with fail)
    refine hK.out _ _ ?hS1 (fun hHeld' => ?rest1)
    case hS1 => ((try dsimp only); exact ⟨cell_below hb1 hHeld.1, cell_below hb1 hHeld.2.1, cell_below hb1 hHeld.2.2.1, cell_below hb1 hHeld.2.2.2.1, cell_below hb1 hHeld.2.2.2.2.1, cell_below hb1 hHeld.2.2.2.2.2.1, cell_below hb1 hHeld.2.2.2.2.2.2⟩)
    clear hK K
    (first | simp only [pA, pZ, pS] | simp only [pN] | skip)
    clear hHeld
    have hHeld := hHeld'
    clear hHeld'
    have hA1 : ∀ o, Below w1.heap.size w1 (w1.alloc o) := fun o => (Below.refl _ _).alloc (Nat.le_refl _) _
    refine wpAnyH_ready (rs := [6]) (by kernel_rfl) (by simp) ?_
    refine AllReadyH.cons (List.getElem?_toArray.trans rfl) (fun K hK => ?_) AllReadyH.nil
    go_simp
    refine hK.out _ _ ?hS2 (fun hHeld' => ?rest2)
    case hS2 => ((try dsimp only); exact ⟨cell_below (hA1 _) hHeld.1, cell_below (hA1 _) hHeld.2.1, cell_below (hA1 _) hHeld.2.2.1, cell_below (hA1 _) hHeld.2.2.2.1, cell_below (hA1 _) hHeld.2.2.2.2.1, cell_below (hA1 _) hHeld.2.2.2.2.2.1, cell_below (hA1 _) hHeld.2.2.2.2.2.2⟩)
    clear hK K
    (first | simp only [pA, pZ, pS] | simp only [pN] | skip)
    clear hHeld
    have hHeld := hHeld'
    clear hHeld'
    refine wpAnyH_ready (rs := [7]) (by kernel_rfl) (by simp) ?_
    refine AllReadyH.cons (List.getElem?_toArray.trans rfl) (fun K hK => ?_) AllReadyH.nil
    go_simp
    go_at_call 72; refine (brack_any w1.heap.size 0 2 [ob, txO t] _ (StrC.block (heap_alloc_new _ _)) (by simp) (by simp) (by simp) HL.out).mono ?_; rintro e' w2 ⟨rfl, hb2⟩
    (try go_wp2_with fail)
    refine hK.out _ _ ?hS3 (fun hHeld' => ?rest3)
    case hS3 => ((try dsimp only); exact ⟨cell_below hb2 hHeld.1, cell_below hb2 hHeld.2.1, cell_below hb2 hHeld.2.2.1, cell_below hb2 hHeld.2.2.2.1, cell_below hb2 hHeld.2.2.2.2.1, cell_below hb2 hHeld.2.2.2.2.2.1, cell_below hb2 hHeld.2.2.2.2.2.2⟩)
    clear hK K
    (first | simp only [pA, pZ, pS] | simp only [pN] | skip)
    clear hHeld
    have hHeld := hHeld'
    clear hHeld'
    refine tk 8 hHeld ?_
    (try simp only [pA, pZ, pS])
    refine wpAnyH_done (by kernel_rfl) ?_ _
    refine NoPanic.normal ?_
    go_wp2
    go_ret
    refine ⟨ret_txt ?_, hWb.trans (((Below.refl wb.heap.size wb).drew.trans ((hb1.trans (((hA1 _).trans (hb2.mono (hA1 _).size)).mono hb1.size)).mono (by simp))).mono hWb.size)⟩
    rw [← HX.out, join_two]
    simp
  · have HX : Hid ([95] = txT t) := show _ = txT t from by unfold txT; rw [if_neg k1, if_neg k2, if_neg k3]
    go_enter Tryz.func71, Tryz.ntmps71
    go_wp2
    go_ret
    exact ⟨ret_txt HX.out, hA _⟩
end Go.Proofs.YtjjjagepnnbebaaGreatDoor

namespace Go.Proofs.YtjjjagepnnbebaaGreatDoor
open Go.RowKit
attribute [local go_sem ↓] Go.wp_at_zero Go.wp_at_succ

theorem isAr_cases {op : Int} (h : isAr op = true) : op = 43 ∨ op = 45 ∨ op = 42 ∨ op = 47 ∨ op = 37 := by
  simpa [isAr] using h
theorem conv_byte (op : Int) (h : isAr op = true) (w : World) : (convert 5 9 (.int .u8 op)).run Tryz.prog w = .ok (.string (mkS [UInt8.ofNat op.toNat])) w := by
  rcases isAr_cases h with rfl | rfl | rfl | rfl | rfl <;> kernel_rfl
theorem ExT.txE_args {es : List Ex} {S : List Sp} (h : ExT es S) {n a b : Nat} (x : UInt8) (ha : a < es.length) (hb : b < es.length) : (Lib.join [[x], txE n es a, txE n es b] [32]).length ≤ 10000000000 := by
  rw [join_three]
  have h1 := txE_short h n a ha
  have h2 := txE_short h n b hb
  simp
  omega

set_option maxHeartbeats 1600000 in
theorem eText_step {es : List Ex} {S : List Sp} (hT : ExT es S) (a : Option Addr) (c : Nat) (q : Option Nat) (n : Nat)
    (IH : ∀ (i : Nat) (w : World), ExsAt q w a es → VarsAt w → i < n → i < es.length → Calls Tryz.prog 123 #[.slice a es.length c, .int .i64 (i : Int)] w fun e w' => e = .returned (.string (mkS (txE n es i))) ∧ Below w.heap.size w w')
    (i : Nat) (w : World) (hE : ExsAt q w a es) (hV : VarsAt w) (hin : i < n + 1) (hi : i < es.length) : Calls Tryz.prog 123 #[.slice a es.length c, .int .i64 (i : Int)] w fun e w' => e = .returned (.string (mkS (txE (n + 1) es i))) ∧ Below w.heap.size w w' := by
  obtain ⟨e, he⟩ : ∃ e, es[i]? = some e := ⟨es[i], by simp [hi]⟩
  obtain ⟨b, o, rfl, _, d0, d1, d2, d3, d4, d5, d6, d7⟩ := hE.get he
  have hX := txE_one n es i e he
  have hn := hT.2.2.2 e (List.mem_of_getElem? he)
  have HE := hidX hE
  have HV := hidX hV
  have HI := hidX IH
  have i0 : (0 : Int) ≤ (i : Int) := by omega
  have i1 : (i : Int) < (es.length : Int) := by omega
  clear hE hV IH
  rcases hT.kind he with ⟨k, hv⟩ | ⟨k, hv⟩ | ⟨k, har, pa, pb, ea, eb, hpa, hpb⟩
  · have HX : Hid (txV e.val = txE (n + 1) es i) := show _ = _ from by rw [hX, if_neg (by omega), if_neg (by omega)]
    rw [k] at d0
    clear hX k he
    go_enter Tryz.func123, Tryz.ntmps123
    go_upto_region 7 with fail
    refine lift_alloc ?_
    intro wb hWb hqb
    have c3 : wb.cell? ⟨w.heap.size, 3, none⟩ = some (.int .i64 e.val.kind) := by simp [World.cell?, hqb]
    have c4 : wb.cell? ⟨w.heap.size, 4, none⟩ = some (.int .i64 e.val.num) := by simp [World.cell?, hqb]
    have c5 : wb.cell? ⟨w.heap.size, 5, none⟩ = some (.string e.val.sym) := by simp [World.cell?, hqb]
    clear hqb
    go_wp2_with (go_at_call 121; refine (vText_any e.val _ (HV.out.below hWb) hn).mono ?_; rintro e' w1 ⟨rfl, hb1⟩)
    go_ret
    exact ⟨ret_txt HX.out, hWb.trans (hb1.mono hWb.size)⟩
  · have HX : Hid (63 :: bsOf e.var = txE (n + 1) es i) := show _ = _ from by rw [hX, if_pos k]
    have hs : ¬ 9223372036854775807 < ({ data := #[63] } : ByteArray).size + e.var.size := by
      have := gSym_sz hv
      have : ({ data := #[63] } : ByteArray).size = 1 := rfl
      omega
    rw [k] at d0
    clear hX k he
    have hA : ∀ o, Below w.heap.size w (w.alloc o) := fun o => (Below.refl _ _).alloc (Nat.le_refl _) _
    go_enter Tryz.func123, Tryz.ntmps123
    go_wp2
    go_ret
    refine ⟨?_, hA _⟩
    rw [← HX.out]
    exact congrArg (fun x => Ending.returned (.string x)) (mkS_app' e.var [63])
  · have HX : Hid (40 :: UInt8.ofNat e.op.toNat :: 32 :: (txE n es pa ++ 32 :: (txE n es pb ++ [41])) = txE (n + 1) es i) := show _ = _ from by rw [hX, if_neg (by omega), if_pos k, ea, eb]; rfl
    have HL := hidX (hT.txE_args (n := n) (UInt8.ofNat e.op.toNat) (show pa < es.length by omega) (show pb < es.length by omega))
    have hcv := conv_byte e.op har
    rw [k] at d0
    rw [ea] at d6
    rw [eb] at d7
    have hpa' : pa < n := by omega
    have hpb' : pb < n := by omega
    have hla : pa < es.length := by omega
    have hlb : pb < es.length := by omega
    clear hX k he ea eb har
    go_enter Tryz.func123, Tryz.ntmps123
    go_upto_region 6 with fail
    refine lift_alloc ?_
    intro wb hWb hqb
    have c1 : wb.cell? ⟨w.heap.size, 1, none⟩ = some (.int .u8 e.op) := by simp [World.cell?, hqb]
    have c6 : wb.cell? ⟨w.heap.size, 6, none⟩ = some (.int .i64 (pa : Int)) := by simp [World.cell?, hqb]
    have c7 : wb.cell? ⟨w.heap.size, 7, none⟩ = some (.int .i64 (pb : Int)) := by simp [World.cell?, hqb]
    clear hqb d0 d1 d2 d3 d4 d5 d6 d7
    have HEB := hidX (HE.out.below (hWb.drew))
    have HVB := hidX (HV.out.below (hWb.drew))
    refine wp_region_noPanic ?_
    refine wp_region_held_drew (S := (fun w' => w'.cell? ⟨w.heap.size, 1, none⟩ = some (.int .u8 e.op) ∧ w'.cell? ⟨w.heap.size, 6, none⟩ = some (.int .i64 (pa : Int)) ∧ w'.cell? ⟨w.heap.size, 7, none⟩ = some (.int .i64 (pb : Int)))) (by kernel_rfl) ?_ (fun hHeld => ?_)
    · (try dsimp only)
      exact ⟨c1, c6, c7⟩
    refine tk 0 hHeld ?_
    (try simp only [pA, pZ, pS])
    refine tk 1 hHeld ?_
    (try simp only [pA, pZ, pS])
    refine tk 2 hHeld ?_
    (try simp only [pA, pZ, pS])
    refine tk 3 hHeld ?_
    (try simp only [pA, pZ, pS])
    refine tk 4 hHeld ?_
    (try simp only [pA, pZ, pS])
    refine tk 5 hHeld ?_
    (try simp only [pA, pZ, pS])
    refine tk 7 hHeld ?_
    (try simp only [pA, pZ, pS])
    refine tk 8 hHeld ?_
    (try simp only [pA, pZ, pS])
    refine tk 9 hHeld ?_
    (try simp only [pA, pZ, pS])
    refine wpAnyH_ready (rs := [6]) (by kernel_rfl) (by simp) ?_
    refine AllReadyH.cons (List.getElem?_toArray.trans rfl) (fun K hK => ?_) AllReadyH.nil
    go_simp
    go_at_call 123; refine (HI.out pa _ HEB.out HVB.out hpa' hla).mono ?_; rintro e' w1 ⟨rfl, hb1⟩
    (try go_wp2_with fail)
    refine hK.out _ _ ?hS1 (fun hHeld' => ?rest1)
    case hS1 => ((try dsimp only); exact ⟨cell_below hb1 hHeld.1, cell_below hb1 hHeld.2.1, cell_below hb1 hHeld.2.2⟩)
    clear hK K
    (first | simp only [pA, pZ, pS] | simp only [pN] | skip)
    clear hHeld
    have hHeld := hHeld'
    clear hHeld'
    refine wpAnyH_ready (rs := [10]) (by kernel_rfl) (by simp) ?_
    refine AllReadyH.cons (List.getElem?_toArray.trans rfl) (fun K hK => ?_) AllReadyH.nil
    go_simp
    go_at_call 123; refine (HI.out pb w1 (HEB.out.below hb1) (HVB.out.below hb1) hpb' hlb).mono ?_; rintro e' w2 ⟨rfl, hb2⟩
    (try go_wp2_with fail)
    refine hK.out _ _ ?hS2 (fun hHeld' => ?rest2)
    case hS2 => ((try dsimp only); exact ⟨cell_below hb2 hHeld.1, cell_below hb2 hHeld.2.1, cell_below hb2 hHeld.2.2⟩)
    clear hK K
    (first | simp only [pA, pZ, pS] | simp only [pN] | skip)
    clear hHeld
    have hHeld := hHeld'
    clear hHeld'
    have hA1 : ∀ o, Below w2.heap.size w2 (w2.alloc o) := fun o => (Below.refl _ _).alloc (Nat.le_refl _) _
    refine wpAnyH_ready (rs := [11]) (by kernel_rfl) (by simp) ?_
    refine AllReadyH.cons (List.getElem?_toArray.trans rfl) (fun K hK => ?_) AllReadyH.nil
    go_simp
    refine hK.out _ _ ?hS3 (fun hHeld' => ?rest3)
    case hS3 => ((try dsimp only); exact ⟨cell_below (hA1 _) hHeld.1, cell_below (hA1 _) hHeld.2.1, cell_below (hA1 _) hHeld.2.2⟩)
    clear hK K
    (first | simp only [pA, pZ, pS] | simp only [pN] | skip)
    clear hHeld
    have hHeld := hHeld'
    clear hHeld'
    refine wpAnyH_ready (rs := [12]) (by kernel_rfl) (by simp) ?_
    refine AllReadyH.cons (List.getElem?_toArray.trans rfl) (fun K hK => ?_) AllReadyH.nil
    go_simp
    go_at_call 72; refine (brack_any w2.heap.size 0 3 [[UInt8.ofNat e.op.toNat], txE n es pa, txE n es pb] _ (StrC.block (heap_alloc_new _ _)) (by simp) (by simp) (by simp) HL.out).mono ?_; rintro e' w3 ⟨rfl, hb3⟩
    (try go_wp2_with fail)
    refine hK.out _ _ ?hS4 (fun hHeld' => ?rest4)
    case hS4 => ((try dsimp only); exact ⟨cell_below hb3 hHeld.1, cell_below hb3 hHeld.2.1, cell_below hb3 hHeld.2.2⟩)
    clear hK K
    (first | simp only [pA, pZ, pS] | simp only [pN] | skip)
    clear hHeld
    have hHeld := hHeld'
    clear hHeld'
    refine tk 13 hHeld ?_
    (try simp only [pA, pZ, pS])
    refine wpAnyH_done (by kernel_rfl) ?_ _
    refine NoPanic.normal ?_
    go_wp2
    go_ret
    refine ⟨ret_txt ?_, ?_⟩
    · rw [← HX.out, join_three]
      simp
    · have h1 : Below w2.heap.size w2 w3 := (hA1 _).trans (hb3.mono (hA1 _).size)
      have h2 : Below w1.heap.size w1 w3 := hb2.trans (h1.mono hb2.size)
      have h3 : Below wb.heap.size wb w3 := (Below.refl wb.heap.size wb).drew.trans ((hb1.trans (h2.mono hb1.size)).mono (by simp))
      exact hWb.trans (h3.mono hWb.size)
theorem eText_any {es : List Ex} {S : List Sp} (hT : ExT es S) (a : Option Addr) (c : Nat) (q : Option Nat) : ∀ (n i : Nat) (w : World), ExsAt q w a es → VarsAt w → i < n → i < es.length → Calls Tryz.prog 123 #[.slice a es.length c, .int .i64 (i : Int)] w fun e w' => e = .returned (.string (mkS (txE n es i))) ∧ Below w.heap.size w w'
  | 0, _, _, _, _, h, _ => absurd h (Nat.not_lt_zero _)
  | n + 1, i, w, hE, hV, hin, hi => eText_step hT a c q n (eText_any hT a c q n) i w hE hV hin hi
end Go.Proofs.YtjjjagepnnbebaaGreatDoor

namespace Go.Proofs.YtjjjagepnnbebaaGreatDoor
open Go.RowKit
attribute [local go_sem ↓] Go.wp_at_zero Go.wp_at_succ

def strV (l : List Bs) : List Value := l.map fun x => Value.string (mkS x)
theorem infoTx : (Tryz.prog.info? 9).map (fun i => (i.zero, i.size, i.bytes)) = some (some (.string ByteArray.empty), 1, 16) := by kernel_rfl
theorem strV_snoc {w : World} {base n m : Nat} {a : Option Addr} {c : Nat} {l l' : List Bs} {x : Bs} (h : w.ownsRow base 9 1 (.slice a n c) n (strV l ++ [.string (mkS x)])) (hl : l' = l ++ [x]) (hm : m = n) : w.ownsRow base 9 1 (.slice a m c) m (strV l') := by
  subst hl hm
  have e : strV (l ++ [x]) = strV l ++ [.string (mkS x)] := by simp [strV]
  rw [e]
  exact h
/-- A new row, owned. -/
theorem own_fresh {w : World} {g : Nat} {t : TypeId} {L : List Value} {base : Nat} (h : w.heap[g]? = some (.cells L.toArray t (0, 0))) (hb : base ≤ g) (hl : L.length ≤ 1000) : w.ownsRow base t 1 (.slice (some ⟨g, 0, none⟩) L.length L.length) L.length L := by
  refine ⟨by omega, .inr ⟨g, L.length, L.toArray, rfl, hb, h, Nat.le_refl _, by unfold maxLen; omega, by simp, by simp⟩⟩

/-- What a growing list of texts keeps: all that was there at w0. -/
def WsPost (w0 : World) (l : List Bs) (e : Ending) (w' : World) : Prop := ∃ a' c', e = .returned (.slice a' l.length c') ∧ l.length ≤ c' ∧ w'.ownsRow w0.heap.size 9 1 (.slice a' l.length c') l.length (strV l) ∧ Below w0.heap.size w0 w'
theorem own_capX {w : World} {base n : Nat} {e : TypeId} {m : Nat} {a : Option Addr} {c : Nat} {xs : List Value} (h : w.ownsRow base e m (.slice a n c) n xs) : n ≤ c := by
  rcases h.2 with ⟨h, _⟩ | ⟨g, cap, cur, h, _, _, h4, _⟩
  · simp only [Value.slice.injEq] at h
    omega
  · simp only [Value.slice.injEq] at h
    omega

set_option maxHeartbeats 3200000 in
theorem words_any (x0 x1 : Int) (x2 : ByteArray) (args : List Int) (a_args : Option Addr) (c_args : Nat) {es : List Ex} {S : List Sp} (hT : ExT es S) (ha6 : args.length ≤ 6) (hav : ∀ v ∈ args, 0 ≤ v ∧ v < (es.length : Int)) (a : Option Addr) (c : Nat) (q : Option Nat) (w0 w : World) (hb0 : Below w0.heap.size w0 w)
    (hE : ExsAt q w0 a es) (hI : IntsAt q w0 a_args args) (hV : VarsAt w0) (fa : Option Addr) (fc : Nat) (fl : List Bs) (hfl : fl.length ≤ 2) (hown : w.ownsRow w0.heap.size 9 1 (.slice fa fl.length fc) fl.length (strV fl)) :
    Calls Tryz.prog 73 #[.agg #[.int .i64 x0, .int .i64 x1, .string x2, .slice a_args args.length c_args], .slice a es.length c, .slice fa fl.length fc] w (WsPost w0 (fl ++ args.map fun i => txE 60 es i.toNat)) := by
  have HE := hidX hE
  have HI := hidX hI
  have HV := hidX hV
  have HO := hidX hown
  have HAV := hidX hav
  have h60 := hT.1
  have hs0 := hb0.size
  have HA := hidX (fun o => hb0.alloc hb0.size o : ∀ o, Below w0.heap.size w0 (w.alloc o))
  have HAO := hidX (fun o => own_bel hown ((Below.refl _ _).alloc (Nat.le_refl _) o))
  clear hE hI hV hown hav
  go_enter Tryz.func73, Tryz.ntmps73
  go_wp2
  go_loopw [2, 12] (fun sv iv wr => ∃ (k : Nat) (a' : Option Addr) (c' : Nat), k ≤ args.length ∧ iv = .int .i64 (k : Int) ∧ sv = .slice a' (fl.length + k) c' ∧ wr.ownsRow w0.heap.size 9 1 (.slice a' (fl.length + k) c') (fl.length + k) (strV (fl ++ (args.take k).map fun i => txE 60 es i.toNat)) ∧ Below w0.heap.size w0 wr) (fun _ iv _ => args.length - (intOf iv).toNat)
  case atStart => exact ⟨0, fa, fc, Nat.zero_le _, rfl, rfl, by simpa using HAO.out _, HA.out _⟩
  case round =>
    obtain ⟨k, a', c', hk, rfl, rfl, hown, hb⟩ := hrel
    have HR := hidX hown
    have HB := hidX hb
    have hsz := hb.size
    clear hown hb
    by_cases hkl : k < args.length
    · obtain ⟨v, hv⟩ : ∃ v, args[k]? = some v := ⟨args[k], by simp [hkl]⟩
      obtain ⟨hv0, hv1⟩ := HAV.out v (List.mem_of_getElem? hv)
      obtain ⟨m, rfl⟩ : ∃ m : Nat, v = (m : Int) := ⟨v.toNat, by omega⟩
      obtain ⟨b, o, rfl, _, hc⟩ := (HI.out.below HB.out).get hv
      have i0 : (0 : Int) ≤ (k : Int) := by omega
      have i1 : (k : Int) < (args.length : Int) := by omega
      have hm : m < es.length := by omega
      have HL : Hid (fl ++ (args.take (k + 1)).map (fun i => txE 60 es i.toNat) = (fl ++ (args.take k).map (fun i => txE 60 es i.toNat)) ++ [txE 60 es m]) := show _ = _ from by rw [List.take_add_one, hv]; simp
      clear hv hv0 hv1
      go_wp2_with (go_at_call 123; refine (eText_any hT a c q 60 m _ (HE.out.below HB.out) (HV.out.below HB.out) (by omega) hm).mono ?_; rintro e w1 ⟨rfl, hb1⟩; refine Hid.out ?_)
      refine hidX ?_
      have HR1 := hidX (own_bel HR.out hb1)
      have HB1 := hidX (HB.out.trans (hb1.mono hsz))
      have hs1 := hb1.size
      clear hb1
      go_wp2_with (at_builtin; refine wpList_append_any (by rfl) (.tmp 16) (.tmp 20) 75 (by rfl) w0.heap.size 9 _ 1 16 Tryz.underlying75 infoTx (by rfl) (by omega) _ (fl.length + k) _ (by rfl) (own_bel HR1.out ((Below.refl _ _).alloc (Nat.le_refl _) _)) (some ⟨w1.heap.size, 0, none⟩) 1 1 (by rfl) [.string (mkS (txE 60 es m))] (by rfl) (fun e => by cases e) (news_new _ _ _ _ rfl) (by simp [Value.oneCell']) (by unfold maxLen; omega) (by omega) (by simp; omega) ?_; intro a3 c3 w3 ho3 hg3 hl3)
      have HB3 := hidX ((HB1.out.alloc (by omega) _).grown hg3.out (by simp; omega) (fun j hj => by have := (HR1.out.lt j hj).1; exact this))
      go_wp2
      go_roundw
      case rel => exact ⟨k + 1, a3, c3, by omega, by go_num, by rw [Nat.add_assoc], strV_snoc ho3.out HL.out (by omega), HB3.out⟩
      case measure => (simp [intOf]; omega)
    · obtain rfl : k = args.length := by omega
      have i1 : ¬ (args.length : Int) < (args.length : Int) := by omega
      go_wp2
      go_ret
      have h := HR.out
      rw [List.take_length] at h
      have e : (fl ++ args.map fun i => txE 60 es i.toNat).length = fl.length + args.length := by simp
      exact ⟨a', c', by rw [e]; rfl, by rw [e]; exact own_capX h, by rw [e]; exact h, HB.out⟩
end Go.Proofs.YtjjjagepnnbebaaGreatDoor

namespace Go.Proofs.YtjjjagepnnbebaaGreatDoor
open Go.RowKit
attribute [local go_sem ↓] Go.wp_at_zero Go.wp_at_succ

theorem join_args_le {es : List Ex} {S : List Sp} (hT : ExT es S) {args : List Int} (ha6 : args.length ≤ 6) (hav : ∀ v ∈ args, 0 ≤ v ∧ v < (es.length : Int)) (x y : Bs) (hx : x.length ≤ 30) (hy : y.length ≤ 30) : (Lib.join ([x, y] ++ args.map fun i => txE 60 es i.toNat) [32]).length ≤ 10000000000 := by
  show (Lib.join (x :: y :: args.map fun i => txE 60 es i.toNat) [32]).length ≤ _
  rw [join_args]
  have := txArgs_le hT ha6 hav
  simp
  omega
/-- 'bracketed' of what 'words' answers. -/
theorem brack_words {w0 w1 : World} {a' : Option Addr} {c' n : Nat} (l : List Bs) (hn : n = l.length) (h1 : 1 ≤ l.length) (h8 : l.length ≤ 8) (hc : l.length ≤ c') (hown : w1.ownsRow w0.heap.size 9 1 (.slice a' l.length c') l.length (strV l)) (hlen : (Lib.join l [32]).length ≤ 10000000000) :
    Calls Tryz.prog 72 #[.slice a' n c'] w1 fun e w' => e = .returned (.string (mkS (40 :: (Lib.join l [32] ++ [41])))) ∧ Below w1.heap.size w1 w' := by
  subst hn
  obtain ⟨b, rfl, hs, hb⟩ := StrC.owns hown h1
  exact brack_any b 0 c' l w1 hs hb (by omega) hc hlen

set_option maxHeartbeats 3200000 in
theorem aText_any (x : Ac) (a_args : Option Addr) (c_args : Nat) {es : List Ex} {S : List Sp} (hT : ExT es S) (hx : AcT es x) (a : Option Addr) (c : Nat) (q : Option Nat) (w : World)
    (hE : ExsAt q w a es) (hI : IntsAt q w a_args x.args) (hV : VarsAt w) :
    Calls Tryz.prog 33 #[.agg #[.int .i64 x.kind, .int .i64 x.k, .string x.cls, .slice a_args x.args.length c_args], .slice a es.length c] w fun e w' => e = .returned (.string (mkS (txA es x))) ∧ Below w.heap.size w w' := by
  have hcs := hx.cases
  obtain ⟨_, ha6, hav⟩ := hx
  have hA0 : ∀ o, Below w.heap.size w (w.alloc o) := fun o => (Below.refl _ _).alloc (Nat.le_refl _) _
  rcases hcs with ⟨k, hs⟩ | ⟨k, hk, he⟩ | ⟨k, hk⟩ | ⟨k, he⟩
  · obtain ⟨cb, hcb⟩ : ∃ cb, x.cls = mkS cb := ⟨bsOf x.cls, (mkS_bs _).symm⟩
    have HX : Hid (40 :: (addB ++ 32 :: (cb ++ txArgs es x.args) ++ [41]) = txA es x) := show _ = _ from by unfold txA txHead; rw [if_pos k, hcb, bs_mkS]; simp
    have HJ := hidX (join_args_le hT ha6 hav addB cb (by decide) (by rw [hcb, mkS_size] at hs; omega))
    have HE := hidX hE
    have HI := hidX hI
    have HV := hidX hV
    have HAV := hidX hav
    rw [k, hcb]
    clear hE hI hV hav hs k hcb
    go_enter Tryz.func33, Tryz.ntmps33
    go_upto_region 3 with fail
    refine lift_alloc ?_
    intro wb hWb hqb
    have c0 : wb.cell? ⟨w.heap.size, 0, none⟩ = some (.int .i64 1) := by simp [World.cell?, hqb]
    have c1 : wb.cell? ⟨w.heap.size, 1, none⟩ = some (.int .i64 x.k) := by simp [World.cell?, hqb]
    have c2 : wb.cell? ⟨w.heap.size, 2, none⟩ = some (.string (mkS cb)) := by simp [World.cell?, hqb]
    have c3 : wb.cell? ⟨w.heap.size, 3, none⟩ = some (.slice a_args x.args.length c_args) := by simp [World.cell?, hqb]
    have hlt : w.heap.size < wb.heap.size := lt_of_block' hqb
    clear hqb
    have hA1 : ∀ o, Below wb.heap.size wb (wb.alloc o) := fun o => (Below.refl _ _).alloc (Nat.le_refl _) _
    go_wp2_with (go_at_call 73; refine (words_any 1 x.k (mkS cb) x.args a_args c_args hT ha6 HAV.out a c q wb _ (hA1 _) (HE.out.below hWb) (HI.out.below hWb) (HV.out.below hWb) (some ⟨wb.heap.size, 0, none⟩) 2 [addB, cb] (by simp) (own_fresh (L := strV [addB, cb]) (heap_alloc_new _ _) (Nat.le_refl _) (by simp [strV]))).mono ?_; rintro e w1 ⟨a', c', rfl, hc', ho1, hb1⟩; refine Hid.out ?_)
    refine hidX ?_
    go_wp2_with (go_at_call 72; refine (brack_words ([addB, cb] ++ x.args.map fun i => txE 60 es i.toNat) (by simp) (by simp) (by simp; omega) hc' ho1 HJ.out).mono ?_; rintro e w2 ⟨rfl, hb2⟩)
    go_ret
    refine ⟨ret_txt ?_, hWb.trans ((hb1.trans (hb2.mono hb1.size)).mono hWb.size)⟩
    rw [← HX.out]
    show 40 :: (Lib.join (addB :: cb :: x.args.map fun i => txE 60 es i.toNat) [32] ++ [41]) = _
    rw [join_args]
  · have HX : Hid (40 :: (dropB ++ 32 :: Lib.itoa x.k ++ [41]) = txA es x) := show _ = _ from by unfold txA txHead; rw [if_neg (by omega), if_pos k, he]; simp [txArgs]
    have HL := hidX (show (Lib.join [dropB, Lib.itoa x.k] [32]).length ≤ 10000000000 by rw [join_two]; have := Lib.itoa_length_le _ hk.1 hk.2; simp [dropB]; omega)
    have HV := hidX (fun o => hV.below (hA0 o))
    rw [k]
    clear hE hI hV hav he k
    go_enter Tryz.func33, Tryz.ntmps33
    go_wp2_with (go_at_call 74; refine (itoa_any x.k _ (HV.out _) hk).mono ?_; rintro e w1 ⟨rfl, hb1⟩; refine Hid.out ?_)
    refine hidX ?_
    have hA1 : ∀ o, Below w1.heap.size w1 (w1.alloc o) := fun o => (Below.refl _ _).alloc (Nat.le_refl _) _
    go_wp2_with (go_at_call 72; refine (brack_any w1.heap.size 0 2 [dropB, Lib.itoa x.k] _ (StrC.block (heap_alloc_new _ _)) (by simp) (by simp) (by simp) HL.out).mono ?_; rintro e w2 ⟨rfl, hb2⟩)
    go_ret
    refine ⟨ret_txt ?_, (hA0 _).trans ((hb1.trans (((hA1 _).trans (hb2.mono (hA1 _).size)).mono hb1.size)).mono (hA0 _).size)⟩
    rw [← HX.out, join_two]
  · have HX : Hid (40 :: (modB ++ 32 :: (Lib.itoa x.k ++ txArgs es x.args) ++ [41]) = txA es x) := show _ = _ from by unfold txA txHead; rw [if_neg (by omega), if_neg (by omega), if_pos k]; simp
    have HJ := hidX (join_args_le hT ha6 hav modB (Lib.itoa x.k) (by decide) (by have := Lib.itoa_length_le _ hk.1 hk.2; omega))
    have HE := hidX hE
    have HI := hidX hI
    have HV := hidX hV
    have HAV := hidX hav
    rw [k]
    clear hE hI hV hav k
    go_enter Tryz.func33, Tryz.ntmps33
    go_upto_region 7 with fail
    refine lift_alloc ?_
    intro wb hWb hqb
    have c0 : wb.cell? ⟨w.heap.size, 0, none⟩ = some (.int .i64 3) := by simp [World.cell?, hqb]
    have c1 : wb.cell? ⟨w.heap.size, 1, none⟩ = some (.int .i64 x.k) := by simp [World.cell?, hqb]
    have c2 : wb.cell? ⟨w.heap.size, 2, none⟩ = some (.string x.cls) := by simp [World.cell?, hqb]
    have c3 : wb.cell? ⟨w.heap.size, 3, none⟩ = some (.slice a_args x.args.length c_args) := by simp [World.cell?, hqb]
    clear hqb
    have HVB := hidX (HV.out.below (hWb.drew))
    refine wp_region_noPanic ?_
    refine wp_region_held_drew (S := (fun w' => w'.cell? ⟨w.heap.size, 0, none⟩ = some (.int .i64 3) ∧ w'.cell? ⟨w.heap.size, 1, none⟩ = some (.int .i64 x.k) ∧ w'.cell? ⟨w.heap.size, 2, none⟩ = some (.string x.cls) ∧ w'.cell? ⟨w.heap.size, 3, none⟩ = some (.slice a_args x.args.length c_args))) (by kernel_rfl) ?_ (fun hHeld => ?_)
    · (try dsimp only)
      exact ⟨c0, c1, c2, c3⟩
    refine tk 0 hHeld ?_
    (try simp only [pA, pZ, pS])
    refine tk 1 hHeld ?_
    (try simp only [pA, pZ, pS])
    refine tk 2 hHeld ?_
    (try simp only [pA, pZ, pS])
    refine tk 3 hHeld ?_
    (try simp only [pA, pZ, pS])
    refine wpAnyH_ready (rs := [4]) (by kernel_rfl) (by simp) ?_
    refine AllReadyH.cons (List.getElem?_toArray.trans rfl) (fun K hK => ?_) AllReadyH.nil
    go_simp
    go_at_call 74; refine (itoa_any x.k _ HVB.out hk).mono ?_; rintro e' w1 ⟨rfl, hb1⟩
    (try go_wp2_with fail)
    refine hK.out _ _ ?hS8 (fun hHeld' => ?rest8)
    case hS8 => ((try dsimp only); exact ⟨cell_below hb1 hHeld.1, cell_below hb1 hHeld.2.1, cell_below hb1 hHeld.2.2.1, cell_below hb1 hHeld.2.2.2⟩)
    clear hK K
    (first | simp only [pA, pZ, pS] | simp only [pN] | skip)
    clear hHeld
    have hHeld := hHeld'
    clear hHeld'
    have hA1 : ∀ o, Below w1.heap.size w1 (w1.alloc o) := fun o => (Below.refl _ _).alloc (Nat.le_refl _) _
    have hS1 := hHeld
    have hW1 : Below w.heap.size w w1 := hWb.trans (((Below.refl wb.heap.size wb).drew.trans (hb1.mono (by simp))).mono hWb.size)
    refine wpAnyH_ready (rs := [5]) (by kernel_rfl) (by simp) ?_
    refine AllReadyH.cons (List.getElem?_toArray.trans rfl) (fun K hK => ?_) AllReadyH.nil
    go_simp
    refine hK.out _ _ ?hS9 (fun hHeld' => ?rest9)
    case hS9 => ((try dsimp only); exact ⟨cell_below (hA1 _) hHeld.1, cell_below (hA1 _) hHeld.2.1, cell_below (hA1 _) hHeld.2.2.1, cell_below (hA1 _) hHeld.2.2.2⟩)
    clear hK K
    (first | simp only [pA, pZ, pS] | simp only [pN] | skip)
    clear hHeld
    have hHeld := hHeld'
    clear hHeld'
    refine wpAnyH_ready (rs := [6]) (by kernel_rfl) (by simp) ?_
    refine AllReadyH.cons (List.getElem?_toArray.trans rfl) (fun K hK => ?_) AllReadyH.nil
    go_simp
    go_at_call 73; refine (words_any 3 x.k x.cls x.args a_args c_args hT ha6 HAV.out a c q w1 _ (hA1 _) (HE.out.below hW1) (HI.out.below hW1) (HV.out.below hW1) (some ⟨w1.heap.size, 0, none⟩) 2 [modB, Lib.itoa x.k] (by simp) (own_fresh (L := strV [modB, Lib.itoa x.k]) (heap_alloc_new _ _) (Nat.le_refl _) (by simp [strV]))).mono ?_; rintro e' w2 ⟨a', c', rfl, hc', ho2, hb2⟩
    (try go_wp2_with fail)
    refine hK.out _ _ ?hS10 (fun hHeld' => ?rest10)
    case hS10 => ((try dsimp only); exact ⟨cell_below hb2 hS1.1, cell_below hb2 hS1.2.1, cell_below hb2 hS1.2.2.1, cell_below hb2 hS1.2.2.2⟩)
    clear hK K
    (first | simp only [pA, pZ, pS] | simp only [pN] | skip)
    clear hHeld
    have hHeld := hHeld'
    clear hHeld'
    refine wpAnyH_ready (rs := [7]) (by kernel_rfl) (by simp) ?_
    refine AllReadyH.cons (List.getElem?_toArray.trans rfl) (fun K hK => ?_) AllReadyH.nil
    go_simp
    go_at_call 72; refine (brack_words ([modB, Lib.itoa x.k] ++ x.args.map fun i => txE 60 es i.toNat) (by simp) (by simp) (by simp; omega) hc' ho2 HJ.out).mono ?_; rintro e' w3 ⟨rfl, hb3⟩
    (try go_wp2_with fail)
    refine hK.out _ _ ?hS11 (fun hHeld' => ?rest11)
    case hS11 => ((try dsimp only); exact ⟨cell_below hb3 hHeld.1, cell_below hb3 hHeld.2.1, cell_below hb3 hHeld.2.2.1, cell_below hb3 hHeld.2.2.2⟩)
    clear hK K
    (first | simp only [pA, pZ, pS] | simp only [pN] | skip)
    clear hHeld
    have hHeld := hHeld'
    clear hHeld'
    refine tk 8 hHeld ?_
    (try simp only [pA, pZ, pS])
    refine wpAnyH_done (by kernel_rfl) ?_ _
    refine NoPanic.normal ?_
    go_wp2
    go_ret
    refine ⟨ret_txt ?_, hW1.trans ((hb2.trans (hb3.mono hb2.size)).mono hW1.size)⟩
    rw [← HX.out]
    show 40 :: (Lib.join (modB :: Lib.itoa x.k :: x.args.map fun i => txE 60 es i.toNat) [32] ++ [41]) = _
    rw [join_args]
  · have HX : Hid (40 :: (haltB ++ [41]) = txA es x) := show _ = _ from by unfold txA txHead; rw [if_neg (by omega), if_neg (by omega), if_neg (by omega), he]; simp [txArgs]
    have HL := hidX (show (Lib.join [haltB] [32]).length ≤ 10000000000 by rw [Lib.join_one]; decide)
    rw [k]
    clear hE hI hV hav he k
    go_enter Tryz.func33, Tryz.ntmps33
    go_upto_region 8 with fail
    refine lift_alloc ?_
    intro wb hWb _
    have hA1 : ∀ o, Below wb.heap.size wb (wb.alloc o) := fun o => (Below.refl _ _).alloc (Nat.le_refl _) _
    go_wp2_with (go_at_call 72; refine (brack_any wb.heap.size 0 1 [haltB] _ (StrC.block (heap_alloc_new _ _)) (by simp) (by simp) (by simp) HL.out).mono ?_; rintro e w2 ⟨rfl, hb2⟩)
    go_ret
    refine ⟨ret_txt ?_, hWb.trans (((hA1 _).trans (hb2.mono (hA1 _).size)).mono hWb.size)⟩
    rw [← HX.out, Lib.join_one]
end Go.Proofs.YtjjjagepnnbebaaGreatDoor

namespace Go.Proofs.YtjjjagepnnbebaaGreatDoor
open Go.RowKit
attribute [local go_sem ↓] Go.wp_at_zero Go.wp_at_succ

theorem txP_join (p : Pt) (pre : List Bs) (h : pre = (if p.neg then [notX, bsOf p.cls] else [bsOf p.cls])) : 40 :: (Lib.join (pre ++ p.terms.map txT) [32] ++ [41]) = txP p := by
  subst h
  unfold txP
  cases p.neg
  · show 40 :: (Lib.join (bsOf p.cls :: p.terms.map txT) [32] ++ [41]) = _
    rw [join_terms]
    simp
  · show 40 :: (Lib.join (notX :: bsOf p.cls :: p.terms.map txT) [32] ++ [41]) = _
    rw [join_terms2]
    simp

set_option maxHeartbeats 3200000 in
theorem pText_any (p : Pt) (a_t : Option Addr) (c_t : Nat) (hp : PtT p) (q : Option Nat) (w : World) (hE : TmsAt q w a_t p.terms) (hV : VarsAt w) :
    Calls Tryz.prog 32 #[.agg #[.bool p.neg, .string p.cls, .slice a_t p.terms.length c_t]] w fun e w' => e = .returned (.string (mkS (txP p))) ∧ Below w.heap.size w w' := by
  obtain ⟨hcl, ht6, htt⟩ := hp.get
  obtain ⟨cb, hcb⟩ : ∃ cb, p.cls = mkS cb := ⟨bsOf p.cls, (mkS_bs _).symm⟩
  have hPX := txP_join p
  have hPL := txP_le hp
  have HE := hidX hE
  have HV := hidX hV
  have HT := hidX htt
  rw [hcb, bs_mkS] at hPX
  rw [hcb]
  clear hE hV htt hcl hp hcb
  rcases (show p.neg = false ∨ p.neg = true by cases p.neg <;> simp) with hng | hng
  · have HX := hidX (hPX [cb] (by rw [hng]; rfl))
    have HL := hidX (show (Lib.join ([cb] ++ p.terms.map txT) [32]).length ≤ 10000000000 by have h1 := congrArg List.length HX.out; simp only [List.length_cons, List.length_append, List.length_nil] at h1 ⊢; omega)
    rw [hng]
    clear hPX hPL hng
    go_enter Tryz.func32, Tryz.ntmps32
    go_upto_region 4 with fail
    refine lift_alloc ?_
    intro wb hWb hqb
    have hlt : w.heap.size < wb.heap.size := lt_of_block' hqb
    have c1 : wb.cell? ⟨w.heap.size, 1, none⟩ = some (.string (mkS cb)) := by simp [World.cell?, hqb]
    have c2 : wb.cell? ⟨w.heap.size, 2, none⟩ = some (.slice a_t p.terms.length c_t) := by simp [World.cell?, hqb]
    clear hqb
    go_wp2_with (at_builtin; refine wpList_append_any (by rfl) (.tmp 11) (.tmp 14) 75 (by rfl) wb.heap.size 9 _ 1 16 Tryz.underlying75 infoTx (by rfl) (by omega) _ 0 _ (by rfl) (World.ownsRow_nil _ _ _ _) (some ⟨wb.heap.size, 0, none⟩) 1 1 (by rfl) [.string (mkS cb)] (by rfl) (fun e => by cases e) (news_new _ _ _ _ rfl) (by simp [Value.oneCell']) (by unfold maxLen; omega) (by omega) (by first | (simp; done) | (simp; omega)) ?_; intro a2 c2' w2 ho2 hg2 hl2; refine Hid.out ?_)
    refine hidX ?_
    have HB2 := hidX (((Below.refl wb.heap.size wb).alloc (Nat.le_refl _) _).grown hg2.out (by simp) (fun j hj => by cases hj))
    have e2 : w2.cell? ⟨w.heap.size, 2, none⟩ = some (.slice a_t p.terms.length c_t) := (HB2.out.cell (p := ⟨w.heap.size, 2, none⟩) hlt).trans c2
    have hs2 := HB2.out.size
    have HO2 := hidX (show w2.ownsRow wb.heap.size 9 1 (.slice a2 1 c2') 1 (strV [cb]) from ho2.out)
    clear ho2 hg2 hl2
    go_wp2
    go_loopw [3, 19] (fun sv iv wr => ∃ (k : Nat) (a' : Option Addr) (c' : Nat), k ≤ p.terms.length ∧ iv = .int .i64 (k : Int) ∧ sv = .slice a' (1 + k) c' ∧ wr.ownsRow wb.heap.size 9 1 (.slice a' (1 + k) c') (1 + k) (strV ([cb] ++ (p.terms.take k).map txT)) ∧ Below wb.heap.size wb wr) (fun _ iv _ => p.terms.length - (intOf iv).toNat)
    case atStart => exact ⟨0, a2, c2', Nat.zero_le _, rfl, rfl, by simpa using HO2.out, HB2.out⟩
    case round =>
      obtain ⟨k, a', c', hk, rfl, rfl, hown, hb⟩ := hrel
      have HR := hidX hown
      have HB := hidX hb
      have hsz := hb.size
      have HW := hidX (hWb.trans (hb.mono hWb.size))
      clear hown hb e2 hs2 HO2 HB2
      by_cases hkl : k < p.terms.length
      · obtain ⟨t, ht⟩ : ∃ t, p.terms[k]? = some t := ⟨p.terms[k], by simp [hkl]⟩
        obtain ⟨hgt, hnt⟩ := HT.out t (List.mem_of_getElem? ht)
        obtain ⟨b, o, rfl, _, t0, t1, t2, t3, t4, t5⟩ := (HE.out.below HW.out).get ht
        have i0 : (0 : Int) ≤ (k : Int) := by omega
        have i1 : (k : Int) < (p.terms.length : Int) := by omega
        have HLT : Hid ([cb] ++ (p.terms.take (k + 1)).map txT = ([cb] ++ (p.terms.take k).map txT) ++ [txT t]) := show _ = _ from by rw [List.take_add_one, ht]; simp
        have HA := hidX (fun o => (Below.refl _ _).alloc (Nat.le_refl _) o : ∀ o, Below wr.heap.size wr (wr.alloc o))
        have HVR := hidX (fun o => (HV.out.below HW.out).below (HA.out o))
        clear ht
        go_wp2_with (go_at_call 71; refine (tText_any t _ (HVR.out _) hgt hnt).mono ?_; rintro e w3 ⟨rfl, hb3⟩; refine Hid.out ?_)
        refine hidX ?_
        have hb3' := (HA.out _).trans (hb3.mono (HA.out _).size)
        have HR3 := hidX (own_bel HR.out hb3')
        have HB3 := hidX (HB.out.trans (hb3'.mono hsz))
        have hs3 := hb3'.size
        clear hb3 hb3' t0 t1 t2 t3 t4 t5
        go_wp2_with (at_builtin; refine wpList_append_any (by rfl) (.tmp 23) (.tmp 26) 75 (by rfl) wb.heap.size 9 _ 1 16 Tryz.underlying75 infoTx (by rfl) (by omega) _ (1 + k) _ (by rfl) (own_bel HR3.out ((Below.refl _ _).alloc (Nat.le_refl _) _)) (some ⟨w3.heap.size, 0, none⟩) 1 1 (by rfl) [.string (mkS (txT t))] (by rfl) (fun e => by cases e) (news_new _ _ _ _ rfl) (by simp [Value.oneCell']) (by unfold maxLen; omega) (by omega) (by first | (simp; done) | (simp; omega)) ?_; intro a4 c4 w4 ho4 hg4 hl4)
        have HB4 := hidX ((HB3.out.alloc (by omega) _).grown hg4.out (by simp; omega) (fun j hj => (HR3.out.lt j hj).1))
        go_wp2
        go_roundw
        case rel => exact ⟨k + 1, a4, c4, by omega, by go_num, by rw [Nat.add_assoc], strV_snoc ho4.out HLT.out (by omega), HB4.out⟩
        case measure => (simp [intOf]; omega)
      · obtain rfl : k = p.terms.length := by omega
        have i1 : ¬ (p.terms.length : Int) < (p.terms.length : Int) := by omega
        have h := HR.out
        rw [List.take_length] at h
        have en : 1 + p.terms.length = ([cb] ++ p.terms.map txT).length := by simp; omega
        have hc := own_capX h
        rw [en] at h hc
        have HF := hidX h
        have HEN := hidX en
        clear h en
        go_wp2_with (go_at_call 72; refine (brack_words ([cb] ++ p.terms.map txT) HEN.out (by simp) (by rw [← HEN.out]; omega) hc HF.out HL.out).mono ?_; rintro e w5 ⟨rfl, hb5⟩)
        go_ret
        exact ⟨ret_txt HX.out, HW.out.trans (hb5.mono HW.out.size)⟩
  · have HX := hidX (hPX [notX, cb] (by rw [hng]; rfl))
    have HL := hidX (show (Lib.join ([notX, cb] ++ p.terms.map txT) [32]).length ≤ 10000000000 by have h1 := congrArg List.length HX.out; simp only [List.length_cons, List.length_append, List.length_nil] at h1 ⊢; omega)
    rw [hng]
    clear hPX hPL hng
    go_enter Tryz.func32, Tryz.ntmps32
    go_upto_region 3 with fail
    refine lift_alloc ?_
    intro wb hWb hqb
    have hlt : w.heap.size < wb.heap.size := lt_of_block' hqb
    have c1 : wb.cell? ⟨w.heap.size, 1, none⟩ = some (.string (mkS cb)) := by simp [World.cell?, hqb]
    have c2 : wb.cell? ⟨w.heap.size, 2, none⟩ = some (.slice a_t p.terms.length c_t) := by simp [World.cell?, hqb]
    clear hqb
    go_wp2_with (at_builtin; refine wpList_append_any (by rfl) (.tmp 8) (.tmp 9) 75 (by rfl) wb.heap.size 9 _ 1 16 Tryz.underlying75 infoTx (by rfl) (by omega) _ 0 _ (by rfl) (World.ownsRow_nil _ _ _ _) (some ⟨wb.heap.size, 0, none⟩) 1 1 (by rfl) [.string (mkS notX)] (by rfl) (fun e => by cases e) (news_new _ _ _ _ rfl) (by simp [Value.oneCell']) (by unfold maxLen; omega) (by omega) (by first | (simp; done) | (simp; omega)) ?_; intro a1 c1' w1 ho1 hg1 hl1; refine Hid.out ?_)
    refine hidX ?_
    have HB1 := hidX (((Below.refl wb.heap.size wb).alloc (Nat.le_refl _) _).grown hg1.out (by simp) (fun j hj => by cases hj))
    have d1 : w1.cell? ⟨w.heap.size, 1, none⟩ = some (.string (mkS cb)) := (HB1.out.cell (p := ⟨w.heap.size, 1, none⟩) hlt).trans c1
    have d2 : w1.cell? ⟨w.heap.size, 2, none⟩ = some (.slice a_t p.terms.length c_t) := (HB1.out.cell (p := ⟨w.heap.size, 2, none⟩) hlt).trans c2
    have hs1 := HB1.out.size
    have HO1 := hidX ho1.out
    clear c1 c2 ho1 hg1 hl1
    go_wp2_with (at_builtin; refine wpList_append_any (by rfl) (.tmp 11) (.tmp 14) 75 (by rfl) wb.heap.size 9 _ 1 16 Tryz.underlying75 infoTx (by rfl) (by omega) _ 1 _ (by rfl) (own_bel HO1.out ((Below.refl _ _).alloc (Nat.le_refl _) _)) (some ⟨w1.heap.size, 0, none⟩) 1 1 (by rfl) [.string (mkS cb)] (by rfl) (fun e => by cases e) (news_new _ _ _ _ rfl) (by simp [Value.oneCell']) (by unfold maxLen; omega) (by omega) (by first | (simp; done) | (simp; omega)) ?_; intro a2 c2' w2 ho2 hg2 hl2; have HB2 := hidX ((HB1.out.alloc hs1 _).grown hg2.out (by simp; omega) (fun j hj => (HO1.out.lt j hj).1)); refine Hid.out ?_)
    refine hidX ?_
    have e2 : w2.cell? ⟨w.heap.size, 2, none⟩ = some (.slice a_t p.terms.length c_t) := (HB2.out.cell (p := ⟨w.heap.size, 2, none⟩) hlt).trans ((HB1.out.cell (p := ⟨w.heap.size, 2, none⟩) hlt).symm.trans d2)
    have hs2 := HB2.out.size
    have HO2 := hidX (show w2.ownsRow wb.heap.size 9 1 (.slice a2 2 c2') 2 (strV [notX, cb]) from ho2.out)
    clear ho2 hg2 hl2
    go_wp2
    go_loopw [3, 19] (fun sv iv wr => ∃ (k : Nat) (a' : Option Addr) (c' : Nat), k ≤ p.terms.length ∧ iv = .int .i64 (k : Int) ∧ sv = .slice a' (2 + k) c' ∧ wr.ownsRow wb.heap.size 9 1 (.slice a' (2 + k) c') (2 + k) (strV ([notX, cb] ++ (p.terms.take k).map txT)) ∧ Below wb.heap.size wb wr) (fun _ iv _ => p.terms.length - (intOf iv).toNat)
    case atStart => exact ⟨0, a2, c2', Nat.zero_le _, rfl, rfl, by simpa using HO2.out, HB2.out⟩
    case round =>
      obtain ⟨k, a', c', hk, rfl, rfl, hown, hb⟩ := hrel
      have HR := hidX hown
      have HB := hidX hb
      have hsz := hb.size
      have HW := hidX (hWb.trans (hb.mono hWb.size))
      clear hown hb e2 hs2 HO2 HB2
      by_cases hkl : k < p.terms.length
      · obtain ⟨t, ht⟩ : ∃ t, p.terms[k]? = some t := ⟨p.terms[k], by simp [hkl]⟩
        obtain ⟨hgt, hnt⟩ := HT.out t (List.mem_of_getElem? ht)
        obtain ⟨b, o, rfl, _, t0, t1, t2, t3, t4, t5⟩ := (HE.out.below HW.out).get ht
        have i0 : (0 : Int) ≤ (k : Int) := by omega
        have i1 : (k : Int) < (p.terms.length : Int) := by omega
        have HLT : Hid ([notX, cb] ++ (p.terms.take (k + 1)).map txT = ([notX, cb] ++ (p.terms.take k).map txT) ++ [txT t]) := show _ = _ from by rw [List.take_add_one, ht]; simp
        have HA := hidX (fun o => (Below.refl _ _).alloc (Nat.le_refl _) o : ∀ o, Below wr.heap.size wr (wr.alloc o))
        have HVR := hidX (fun o => (HV.out.below HW.out).below (HA.out o))
        clear ht
        go_wp2_with (go_at_call 71; refine (tText_any t _ (HVR.out _) hgt hnt).mono ?_; rintro e w3 ⟨rfl, hb3⟩; refine Hid.out ?_)
        refine hidX ?_
        have hb3' := (HA.out _).trans (hb3.mono (HA.out _).size)
        have HR3 := hidX (own_bel HR.out hb3')
        have HB3 := hidX (HB.out.trans (hb3'.mono hsz))
        have hs3 := hb3'.size
        clear hb3 hb3' t0 t1 t2 t3 t4 t5
        go_wp2_with (at_builtin; refine wpList_append_any (by rfl) (.tmp 23) (.tmp 26) 75 (by rfl) wb.heap.size 9 _ 1 16 Tryz.underlying75 infoTx (by rfl) (by omega) _ (2 + k) _ (by rfl) (own_bel HR3.out ((Below.refl _ _).alloc (Nat.le_refl _) _)) (some ⟨w3.heap.size, 0, none⟩) 1 1 (by rfl) [.string (mkS (txT t))] (by rfl) (fun e => by cases e) (news_new _ _ _ _ rfl) (by simp [Value.oneCell']) (by unfold maxLen; omega) (by omega) (by first | (simp; done) | (simp; omega)) ?_; intro a4 c4 w4 ho4 hg4 hl4)
        have HB4 := hidX ((HB3.out.alloc (by omega) _).grown hg4.out (by simp; omega) (fun j hj => (HR3.out.lt j hj).1))
        go_wp2
        go_roundw
        case rel => exact ⟨k + 1, a4, c4, by omega, by go_num, by rw [Nat.add_assoc], strV_snoc ho4.out HLT.out (by omega), HB4.out⟩
        case measure => (simp [intOf]; omega)
      · obtain rfl : k = p.terms.length := by omega
        have i1 : ¬ (p.terms.length : Int) < (p.terms.length : Int) := by omega
        have h := HR.out
        rw [List.take_length] at h
        have en : 2 + p.terms.length = ([notX, cb] ++ p.terms.map txT).length := by simp; omega
        have hc := own_capX h
        rw [en] at h hc
        have HF := hidX h
        have HEN := hidX en
        clear h en
        go_wp2_with (go_at_call 72; refine (brack_words ([notX, cb] ++ p.terms.map txT) HEN.out (by simp) (by rw [← HEN.out]; omega) hc HF.out HL.out).mono ?_; rintro e w5 ⟨rfl, hb5⟩)
        go_ret
        exact ⟨ret_txt HX.out, HW.out.trans (hb5.mono HW.out.size)⟩
end Go.Proofs.YtjjjagepnnbebaaGreatDoor

namespace Go.Proofs.YtjjjagepnnbebaaGreatDoor
open Go.RowKit
attribute [local go_sem ↓] Go.wp_at_zero Go.wp_at_succ

theorem txHd_cat (x : Bs) (y : Bs) : ({ data := #[40, 114, 117, 108, 101, 32] } : ByteArray) ++ mkS x ++ { data := #[32] } ++ mkS y = mkS (ruleB ++ (x ++ 32 :: y)) := by
  have e1 : ({ data := #[40, 114, 117, 108, 101, 32] } : ByteArray) = mkS ruleB := rfl
  have e2 : ({ data := #[32] } : ByteArray) = mkS [32] := rfl
  rw [e1, e2, mkS_app, mkS_app, mkS_app]
  simp
theorem txR_cat (x : Bs) : mkS x ++ ({ data := #[41, 10] } : ByteArray) = mkS (x ++ [41, 10]) := mkS_app x [41, 10]
theorem txR_join (r : Ru) : Lib.join (txHd r :: (r.pats.map txP ++ thenB :: r.acts.map (txA r.exprs))) lineB ++ [41, 10] = txR r := by
  rw [join_lines]
  unfold txR
  simp

set_option maxHeartbeats 6400000 in
theorem rText_any (x : Ru) (a_pats : Option Addr) (c_pats : Nat) (a_exprs : Option Addr) (c_exprs : Nat) (a_acts : Option Addr) (c_acts : Nat) (q : Option Nat) (w : World) (h_pats : PtsAt q w a_pats x.pats) (h_exprs : ExsAt q w a_exprs x.exprs) (h_acts : AcsAt q w a_acts x.acts) (hx : RuT x) (hV : VarsAt w) :
    Calls Tryz.prog 13 #[.agg #[.string x.name, .int .i64 x.sal, .slice a_pats x.pats.length c_pats, .slice a_exprs x.exprs.length c_exprs, .slice a_acts x.acts.length c_acts]] w fun e w' => e = .returned (.string (mkS (txR x))) ∧ Below w.heap.size w w' := by
  have hXJ := txR_join x
  have hXL := txR_le hx
  obtain ⟨hnm, hsal, hp6, hpp, ha8, ⟨S, hT⟩, haa⟩ := hx
  obtain ⟨nb, hnb⟩ : ∃ nb, x.name = mkS nb := ⟨bsOf x.name, (mkS_bs _).symm⟩
  have hisl := Lib.itoa_length_le _ hsal.1 hsal.2
  obtain ⟨hd, hhd⟩ : ∃ hd, hd = txHd x := ⟨_, rfl⟩
  have HHD : Hid (ruleB ++ (nb ++ 32 :: Lib.itoa x.sal) = hd) := show _ = _ from by rw [hhd]; unfold txHd; rw [hnb, bs_mkS]
  rw [← hhd] at hXJ
  have hnl : nb.length ≤ 20 := by rw [hnb, mkS_size] at hnm; exact hnm
  have HX := hidX hXJ
  have HXL := hidX (show (Lib.join (hd :: (x.pats.map txP ++ thenB :: x.acts.map (txA x.exprs))) lineB).length ≤ 100000000000 by have h1 := congrArg List.length hXJ; simp only [List.length_append] at h1 ⊢; omega)
  have HP := hidX h_pats
  have HE := hidX h_exprs
  have HC := hidX h_acts
  have HV := hidX hV
  have HPP := hidX hpp
  have HAA := hidX haa
  rw [hnb]
  clear h_pats h_exprs h_acts hV hpp haa hXJ hXL hnb hhd hnm
  go_enter Tryz.func13, Tryz.ntmps13
  go_upto_region 1 with fail
  refine lift_alloc ?_
  intro wb hWb hqb
  have hlt : w.heap.size < wb.heap.size := lt_of_block' hqb
  have HBX := hidX hqb
  have c0 : wb.cell? ⟨w.heap.size, 0, none⟩ = some (.string (mkS nb)) := by simp [World.cell?, hqb]
  have c1 : wb.cell? ⟨w.heap.size, 1, none⟩ = some (.int .i64 x.sal) := by simp [World.cell?, hqb]
  clear hqb
  have HVB := hidX (HV.out.below hWb)
  refine wp_region_noPanic ?_
  refine wp_region_held_drew (S := (fun w' => w'.cell? ⟨w.heap.size, 0, none⟩ = some (.string (mkS nb)) ∧ w'.cell? ⟨w.heap.size, 1, none⟩ = some (.int .i64 x.sal))) (by kernel_rfl) ?_ (fun hHeld => ?_)
  · (try dsimp only)
    exact ⟨c0, c1⟩
  refine tk 0 hHeld ?_
  (try simp only [pA, pZ, pS])
  refine tk 1 hHeld ?_
  (try simp only [pA, pZ, pS])
  refine tk 2 hHeld ?_ (hy := fun w' _ => by go_simp; rw [if_neg (by (repeat (first | rw [ByteArray.size_append] | rw [mkS_size] | rw [sz_one])); omega)])
  (try simp only [pA, pZ, pS])
  refine tk 3 hHeld ?_ (hy := fun w' _ => by go_simp; rw [if_neg (by (repeat (first | rw [ByteArray.size_append] | rw [mkS_size] | rw [sz_one])); omega)])
  (try simp only [pA, pZ, pS])
  refine tk 4 hHeld ?_
  (try simp only [pA, pZ, pS])
  refine tk 5 hHeld ?_
  (try simp only [pA, pZ, pS])
  refine wpAnyH_ready (rs := [6]) (by kernel_rfl) (by simp) ?_
  refine AllReadyH.cons (List.getElem?_toArray.trans rfl) (fun K hK => ?_) AllReadyH.nil
  go_simp
  go_at_call 31; refine (fmtInt_any x.sal _ (HVB.out.below (Below.refl _ _).drew) hsal).mono ?_; rintro e' w1 ⟨rfl, hb1⟩
  (try go_wp2_with fail)
  refine hK.out _ _ ?hS12 (fun hHeld' => ?rest12)
  case hS12 => ((try dsimp only); exact ⟨cell_below hb1 hHeld.1, cell_below hb1 hHeld.2⟩)
  clear hK K
  (first | simp only [pA, pZ, pS] | simp only [pN] | skip)
  clear hHeld
  have hHeld := hHeld'
  clear hHeld'
  refine tk 7 hHeld ?_ (hy := fun w' _ => by go_simp; rw [if_neg (by (repeat (first | rw [ByteArray.size_append] | rw [mkS_size] | rw [sz_one])); omega)])
  (try simp only [pA, pZ, pS])
  rw [txHd_cat, HHD.out]
  have hA1 : ∀ o, Below w1.heap.size w1 (w1.alloc o) := fun o => (Below.refl _ _).alloc (Nat.le_refl _) _
  have HW1 := hidX (show Below wb.heap.size wb w1 from (Below.refl wb.heap.size wb).drew.trans (hb1.mono (by simp)))
  refine wpAnyH_ready (rs := [8]) (by kernel_rfl) (by simp) ?_
  refine AllReadyH.cons (List.getElem?_toArray.trans rfl) (fun K hK => ?_) AllReadyH.nil
  go_simp
  refine hK.out _ _ ?hS13 (fun hHeld' => ?rest13)
  case hS13 => ((try dsimp only); exact ⟨cell_below (hA1 _) hHeld.1, cell_below (hA1 _) hHeld.2⟩)
  clear hK K
  (first | simp only [pA, pZ, pS] | simp only [pN] | skip)
  clear hHeld
  have hHeld := hHeld'
  clear hHeld'
  refine tk 9 hHeld ?_
  (try simp only [pA, pZ, pS])
  refine wpAnyH_done (by kernel_rfl) ?_ _
  refine NoPanic.normal ?_
  refine lift_alloc ?_
  intro w2 hW2 hq2
  have HO2 := hidX (show w2.ownsRow wb.heap.size 9 1 (.slice (some ⟨w1.heap.size, 0, none⟩) 1 1) 1 (strV [hd]) from own_fresh (L := strV [hd]) hq2 HW1.out.size (by simp [strV]))
  have HB2 := hidX (HW1.out.trans (hW2.mono HW1.out.size))
  have hs2 := HB2.out.size
  clear hW2 hq2 c0 c1 hHeld hA1 hb1
  have HBK := hidX (fun w' (h : Below wb.heap.size wb w') => (h.block _ hlt).trans HBX.out)
  have hq := HBK.out w2 HB2.out
  have c2 : w2.cell? ⟨w.heap.size, 2, none⟩ = some (.slice a_pats x.pats.length c_pats) := by simp [World.cell?, hq]
  clear hq
  go_wp2
  go_loopw [3, 20] (fun sv iv wr => ∃ (k : Nat) (a' : Option Addr) (c' : Nat), k ≤ x.pats.length ∧ iv = .int .i64 (k : Int) ∧ sv = .slice a' (1 + k) c' ∧ wr.ownsRow wb.heap.size 9 1 (.slice a' (1 + k) c') (1 + k) (strV (hd :: (x.pats.take k).map txP)) ∧ Below wb.heap.size wb wr) (fun _ iv _ => x.pats.length - (intOf iv).toNat)
  case atStart => exact ⟨0, _, _, Nat.zero_le _, rfl, rfl, HO2.out, HB2.out⟩
  case round =>
    obtain ⟨k, a', c', hk, rfl, rfl, hown, hb⟩ := hrel
    have HR := hidX hown
    have HB := hidX hb
    have hsz := hb.size
    have HW := hidX (hWb.trans (hb.mono hWb.size))
    clear hown hb c2 hs2 HO2 HB2
    by_cases hkl : k < x.pats.length
    · obtain ⟨p, hp⟩ : ∃ p, x.pats[k]? = some p := ⟨x.pats[k], by simp [hkl]⟩
      have hpt := HPP.out p (List.mem_of_getElem? hp)
      obtain ⟨b, o, a_t, c_t, rfl, _, t0, t1, t2, htm⟩ := (HP.out.below HW.out).get hp
      have HTM := hidX htm
      have i0 : (0 : Int) ≤ (k : Int) := by omega
      have i1 : (k : Int) < (x.pats.length : Int) := by omega
      have HLT : Hid (hd :: (x.pats.take (k + 1)).map txP = (hd :: (x.pats.take k).map txP) ++ [txP p]) := show _ = _ from by rw [List.take_add_one, hp]; simp
      have HA := hidX (fun o => (Below.refl _ _).alloc (Nat.le_refl _) o : ∀ o, Below wr.heap.size wr (wr.alloc o))
      have HVR := hidX (fun o => (HV.out.below HW.out).below (HA.out o))
      clear hp htm
      go_wp2_with (go_at_call 32; refine (pText_any p a_t c_t hpt q _ (HTM.out.below (HA.out _)) (HVR.out _)).mono ?_; rintro e w3 ⟨rfl, hb3⟩; refine Hid.out ?_)
      refine hidX ?_
      have hb3' := (HA.out _).trans (hb3.mono (HA.out _).size)
      have HR3 := hidX (own_bel HR.out hb3')
      have HB3 := hidX (HB.out.trans (hb3'.mono hsz))
      have hs3 := hb3'.size
      clear hb3 hb3' t0 t1 t2
      go_wp2_with (at_builtin; refine wpList_append_any (by rfl) (.tmp 24) (.tmp 27) 75 (by rfl) wb.heap.size 9 _ 1 16 Tryz.underlying75 infoTx (by rfl) (by omega) _ (1 + k) _ (by rfl) (own_bel HR3.out ((Below.refl _ _).alloc (Nat.le_refl _) _)) (some ⟨w3.heap.size, 0, none⟩) 1 1 (by rfl) [.string (mkS (txP p))] (by rfl) (fun e => by cases e) (news_new _ _ _ _ rfl) (by simp [Value.oneCell']) (by unfold maxLen; omega) (by omega) (by first | (simp; done) | (simp; omega)) ?_; intro a4 c4 w4 ho4 hg4 hl4)
      have HB4 := hidX ((HB3.out.alloc (by omega) _).grown hg4.out (by simp; omega) (fun j hj => (HR3.out.lt j hj).1))
      go_wp2
      go_roundw
      case rel => exact ⟨k + 1, a4, c4, by omega, by go_num, by rw [Nat.add_assoc], strV_snoc ho4.out HLT.out (by omega), HB4.out⟩
      case measure => (simp [intOf]; omega)
    · obtain rfl : k = x.pats.length := by omega
      have i1 : ¬ (x.pats.length : Int) < (x.pats.length : Int) := by omega
      have h := HR.out
      rw [List.take_length] at h
      have HR' := hidX h
      obtain ⟨w3, hw3⟩ : ∃ u, u = wr := ⟨wr, rfl⟩
      rw [← hw3] at HR' HB HW hsz ⊢
      have c4 : ∀ w', Below wb.heap.size wb w' → w'.cell? ⟨w.heap.size, 4, none⟩ = some (.slice a_acts x.acts.length c_acts) := fun w' h => by simp [World.cell?, HBK.out w' h]
      have HC4 := hidX c4
      clear h HR hw3 c4
      go_wp2_with (at_builtin; refine wpList_append_any (by rfl) (.tmp 30) (.tmp 31) 75 (by rfl) wb.heap.size 9 _ 1 16 Tryz.underlying75 infoTx (by rfl) (by omega) _ (1 + x.pats.length) _ (by rfl) (own_bel HR'.out ((Below.refl _ _).alloc (Nat.le_refl _) _)) (some ⟨w3.heap.size, 0, none⟩) 1 1 (by rfl) [.string (mkS thenB)] (by rfl) (fun e => by cases e) (news_new _ _ _ _ rfl) (by simp [Value.oneCell']) (by unfold maxLen; omega) (by omega) (by first | (simp; done) | (simp; omega)) ?_; intro a4 c4' w4 ho4 hg4 hl4; have HB4 := hidX ((HB.out.alloc (by omega) _).grown hg4.out (by simp; omega) (fun j hj => (HR'.out.lt j hj).1)); have c4 := HC4.out w4 HB4.out)
      have HO4 := hidX (strV_snoc (l' := hd :: (x.pats.map txP) ++ [thenB]) ho4.out rfl rfl)
      obtain ⟨pre, hpre⟩ : ∃ l, l = hd :: (x.pats.map txP) ++ [thenB] := ⟨_, rfl⟩
      have hprl : pre.length = x.pats.length + 2 := by rw [hpre]; simp
      have HPRE := hidX hpre
      have hpr8 : pre.length ≤ 8 := by omega
      have HO5 := hidX (show w4.ownsRow wb.heap.size 9 1 (.slice a4 (1 + x.pats.length + 1) c4') (1 + x.pats.length + 1) (strV pre) by rw [hpre]; exact HO4.out)
      obtain ⟨m, hm⟩ : ∃ m, m = 1 + x.pats.length + 1 := ⟨_, rfl⟩
      rw [← hm] at HO5 ⊢
      have hm8 : m ≤ 8 := by omega
      have hm1 : 1 ≤ m := by omega
      have HML := hidX (show pre.length = m by omega)
      clear ho4 hg4 hl4 HO4 hpre hprl hm HR' HB hpr8
      go_loopw [3, 36] (fun sv iv wr => ∃ (k : Nat) (a' : Option Addr) (c' : Nat), k ≤ x.acts.length ∧ iv = .int .i64 (k : Int) ∧ sv = .slice a' (m + k) c' ∧ wr.ownsRow wb.heap.size 9 1 (.slice a' (m + k) c') (m + k) (strV (pre ++ (x.acts.take k).map (txA x.exprs))) ∧ Below wb.heap.size wb wr) (fun _ iv _ => x.acts.length - (intOf iv).toNat)
      case atStart => exact ⟨0, a4, c4', Nat.zero_le _, rfl, rfl, by simpa using HO5.out, HB4.out⟩
      case round =>
        obtain ⟨k, a', c', hk, rfl, rfl, hown, hb⟩ := hrel
        have HR := hidX hown
        have HB := hidX hb
        have hsz := hb.size
        have HW := hidX (hWb.trans (hb.mono hWb.size))
        have hq := HBK.out _ hb
        have c3 : wr.cell? ⟨w.heap.size, 3, none⟩ = some (.slice a_exprs x.exprs.length c_exprs) := by simp [World.cell?, hq]
        clear hown hb hq c4 HO5 HB4
        by_cases hkl : k < x.acts.length
        · obtain ⟨y, hy⟩ : ∃ p, x.acts[k]? = some p := ⟨x.acts[k], by simp [hkl]⟩
          have hyt := HAA.out y (List.mem_of_getElem? hy)
          obtain ⟨b, o, a_g, c_g, rfl, _, t0, t1, t2, t3, htm⟩ := (HC.out.below HW.out).get hy
          have HTM := hidX htm
          have i0 : (0 : Int) ≤ (k : Int) := by omega
          have i1 : (k : Int) < (x.acts.length : Int) := by omega
          have HLT : Hid (pre ++ (x.acts.take (k + 1)).map (txA x.exprs) = (pre ++ (x.acts.take k).map (txA x.exprs)) ++ [txA x.exprs y]) := show _ = _ from by rw [List.take_add_one, hy]; simp
          have HA := hidX (fun o => (Below.refl _ _).alloc (Nat.le_refl _) o : ∀ o, Below wr.heap.size wr (wr.alloc o))
          have HVR := hidX (fun o => (HV.out.below HW.out).below (HA.out o))
          have HER := hidX (fun o => (HE.out.below HW.out).below (HA.out o))
          have hwl : w.heap.size < wr.heap.size := by omega
          clear hy htm
          go_wp2_with (go_at_call 33; refine (aText_any y a_g c_g hT hyt a_exprs c_exprs q _ (HER.out _) (HTM.out.below (HA.out _)) (HVR.out _)).mono ?_; rintro e w5 ⟨rfl, hb5⟩; refine Hid.out ?_)
          refine hidX ?_
          have hb5' := (HA.out _).trans (hb5.mono (HA.out _).size)
          have HR5 := hidX (own_bel HR.out hb5')
          have HB5 := hidX (HB.out.trans (hb5'.mono hsz))
          have hs5 := hb5'.size
          clear hb5 hb5' t0 t1 t2 t3 c3
          go_wp2_with (at_builtin; refine wpList_append_any (by rfl) (.tmp 40) (.tmp 45) 75 (by rfl) wb.heap.size 9 _ 1 16 Tryz.underlying75 infoTx (by rfl) (by omega) _ (m + k) _ (by rfl) (own_bel HR5.out ((Below.refl _ _).alloc (Nat.le_refl _) _)) (some ⟨w5.heap.size, 0, none⟩) 1 1 (by rfl) [.string (mkS (txA x.exprs y))] (by rfl) (fun e => by cases e) (news_new _ _ _ _ rfl) (by simp [Value.oneCell']) (by unfold maxLen; omega) (by omega) (by first | (simp; done) | (simp; omega)) ?_; intro a6 c6 w6 ho6 hg6 hl6)
          have HB6 := hidX ((HB5.out.alloc (by omega) _).grown hg6.out (by simp; omega) (fun j hj => (HR5.out.lt j hj).1))
          go_wp2
          go_roundw
          case rel => exact ⟨k + 1, a6, c6, by omega, by go_num, by rw [Nat.add_assoc], strV_snoc ho6.out HLT.out (by omega), HB6.out⟩
          case measure => (simp [intOf]; omega)
        · obtain rfl : k = x.acts.length := by omega
          have i1 : ¬ (x.acts.length : Int) < (x.acts.length : Int) := by omega
          have h := HR.out
          rw [List.take_length] at h
          have en : m + x.acts.length = (pre ++ x.acts.map (txA x.exprs)).length := by rw [List.length_append, HML.out, List.length_map]
          have hc := own_capX h
          rw [en] at h hc
          obtain ⟨bb, rfl, hstr, hbb⟩ := StrC.owns h (by rw [← en]; omega)
          have HST := hidX hstr
          have hJ : Lib.join (pre ++ x.acts.map (txA x.exprs)) lineB ++ [41, 10] = txR x ∧ (Lib.join (pre ++ x.acts.map (txA x.exprs)) lineB).length ≤ 100000000000 := by
            have e : pre ++ x.acts.map (txA x.exprs) = hd :: (x.pats.map txP ++ thenB :: x.acts.map (txA x.exprs)) := by rw [HPRE.out]; simp
            rw [e]
            exact ⟨HX.out, HXL.out⟩
          have HJR := hidX (fun w' (h1 : StrC w' bb 0 (pre ++ x.acts.map (txA x.exprs))) (h2 : bb < w'.heap.size) => by
            have := join_any bb 0 c' _ lineB w' h1 h2 (by rw [← en]; omega) hc hJ.2
            rw [← en] at this
            exact this)
          obtain ⟨J, hJe⟩ : ∃ J, J = Lib.join (pre ++ x.acts.map (txA x.exprs)) lineB := ⟨_, rfl⟩
          rw [← hJe] at HJR hJ
          have HJ1 := hidX hJ.1
          have hJ2 := hJ.2
          have y1 : ¬ 9223372036854775807 < (mkS J).size + ({ data := #[41, 10] } : ByteArray).size := by rw [mkS_size]; have : ({ data := #[41, 10] } : ByteArray).size = 2 := rfl; omega
          have y2 : ¬ 9223372036854775807 < (mkS J).size + 2 := by rw [mkS_size]; omega
          clear h hstr en hc hJ hJe c3
          go_wp2_with (go_at_call 34; refine (HJR.out _ HST.out hbb).mono ?_; rintro e w5 ⟨rfl, hb5⟩)
          go_ret
          refine ⟨?_, HW.out.trans (hb5.mono HW.out.size)⟩
          rw [← HJ1.out]
          exact congrArg (fun x => Ending.returned (.string x)) (txR_cat J)
end Go.Proofs.YtjjjagepnnbebaaGreatDoor

namespace Go.Proofs.YtjjjagepnnbebaaGreatDoor
open Go.RowKit
attribute [local go_sem ↓] Go.wp_at_zero Go.wp_at_succ

set_option maxHeartbeats 1600000 in
theorem sameRules_sameq (a a' : Option Addr) (c c' : Nat) (xs : List Ru) (w : World) (hv : RusAt none w a xs) (hv' : RusAt none w a' xs) (hs : ListLe Ru.lq 1048576 xs) :
    Calls Tryz.prog 8 #[.slice a xs.length c, .slice a' xs.length c'] w fun e w' =>
      e = .returned (.bool true) ∧ Below w.heap.size w w' := by
  obtain ⟨hl, hs⟩ := hs
  go_enter Tryz.func8, Tryz.ntmps8
  go_wp2
  go_loopw [13] (fun i wr => ∃ (k : Nat), k ≤ xs.length ∧ i = .int .i64 k ∧ Below w.heap.size w wr) (fun i _ => xs.length - (intOf i).toNat)
  case atStart => exact ⟨0, by omega, rfl, Below.refl _ _⟩
  case round =>
    obtain ⟨k, hk, rfl, hb⟩ := hrel
    by_cases hkl : k < xs.length
    · obtain ⟨x, hxk⟩ : ∃ x, xs[k]? = some x := ⟨xs[k], by simp [hkl]⟩
      obtain ⟨b, o, a_pats, c_pats, a_exprs, c_exprs, a_acts, c_acts, rfl, hq, c0, c1, c2, c3, c4, h_pats, h_exprs, h_acts, cap_exprs⟩ := (hv.below hb).get hxk
      obtain ⟨b', o', a_pats', c_pats', a_exprs', c_exprs', a_acts', c_acts', rfl, hq', d0, d1, d2, d3, d4, h_pats', h_exprs', h_acts', cap_exprs'⟩ := (hv'.below hb).get hxk
      have z0 : (0 : Int) ≤ (k : Int) := by omega
      have z1 : (k : Int) < (xs.length : Int) := by omega
      have hsx := hs x (List.mem_of_getElem? hxk)
      have B1 : Below wr.heap.size wr wr.drew := (Below.refl _ _).drew
      go_wp2
      go_region_held3 (fun w' => w'.cell? ⟨b, o + k * 5, none⟩ = some (.string x.name) ∧ w'.cell? ⟨b, o + k * 5 + 1, none⟩ = some (.int .i64 x.sal) ∧ w'.cell? ⟨b, o + k * 5 + 2, none⟩ = some (.slice a_pats x.pats.length c_pats) ∧ w'.cell? ⟨b, o + k * 5 + 3, none⟩ = some (.slice a_exprs x.exprs.length c_exprs) ∧ w'.cell? ⟨b, o + k * 5 + 4, none⟩ = some (.slice a_acts x.acts.length c_acts) ∧ w'.cell? ⟨b', o' + k * 5, none⟩ = some (.string x.name) ∧ w'.cell? ⟨b', o' + k * 5 + 1, none⟩ = some (.int .i64 x.sal) ∧ w'.cell? ⟨b', o' + k * 5 + 2, none⟩ = some (.slice a_pats' x.pats.length c_pats') ∧ w'.cell? ⟨b', o' + k * 5 + 3, none⟩ = some (.slice a_exprs' x.exprs.length c_exprs') ∧ w'.cell? ⟨b', o' + k * 5 + 4, none⟩ = some (.slice a_acts' x.acts.length c_acts')) ((go_split_ands; refine ⟨?_, ?_, ?_, ?_, ?_, ?_, ?_, ?_, ?_, ?_⟩ <;> first | (simp [*]; done) | exact cell_below hb' (by simp [*])))
        (first | (go_at_call 18; refine (sameRule_sameq x a_pats a_pats' a_exprs a_exprs' a_acts a_acts' c_pats c_pats' c_exprs c_exprs' c_acts c_acts' _ (h_pats.below B1) (h_pats'.below B1) (h_exprs.below B1) (h_exprs'.below B1) (h_acts.below B1) (h_acts'.below B1) hsx).mono ?_; rintro e w' ⟨rfl, hb'⟩))
      go_wp2
      go_roundw
      case rel => exact ⟨k + 1, by omega, by go_num, hb.drew.trans (hb'.mono hb.size)⟩
      case measure => simp [intOf]; omega
    · go_wp2
      go_ret
      exact ⟨rfl, hb⟩

end Go.Proofs.YtjjjagepnnbebaaGreatDoor
