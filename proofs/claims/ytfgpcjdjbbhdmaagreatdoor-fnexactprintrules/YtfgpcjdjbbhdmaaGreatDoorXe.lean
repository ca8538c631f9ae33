/-
  OUR OWN TEXT. Tx7, Tx8, Tx9, one behind the other.
-/
import Derived.Test.YtfgpcjdjbbhdmaaGreatDoorXd
namespace Go.Proofs.YtfgpcjdjbbhdmaaGreatDoor
open Go.RowKit
attribute [local go_sem ↓] Go.wp_at_zero Go.wp_at_succ

theorem isAr_cases {op : Int} (h : isAr op = true) : op = 43 ∨ op = 45 ∨ op = 42 ∨ op = 47 ∨ op = 37 := by
  simpa [isAr] using h
theorem conv_byte (op : Int) (h : isAr op = true) (w : World) : (convert 5 9 (.int .u8 op)).run Tryz.prog w = .ok (.string (mkS [UInt8.ofNat op.toNat])) w := by
  rcases isAr_cases h with rfl | rfl | rfl | rfl | rfl <;> kernel_rfl
theorem ExT.txE_args {es : List Ex} {S : List Sp} (h : ExT es S) {n a b : Nat} (x : UInt8) (ha : a < es.length) (hb : b < es.length) : (Lib.join [[x], txE n es a, txE n es b] [32]).length ≤ 10000000000 := by
  rw [join_three]
  have h1 := txE_short h n a ha
  have h2 := txE_short h n b hb
  simp
  omega

set_option maxHeartbeats 1600000 in
theorem eText_step {es : List Ex} {S : List Sp} (hT : ExT es S) (a : Option Addr) (c : Nat) (q : Option Nat) (n : Nat)
    (IH : ∀ (i : Nat) (w : World), ExsAt q w a es → VarsAt w → i < n → i < es.length → Calls Tryz.prog 184 #[.slice a es.length c, .int .i64 (i : Int)] w fun e w' => e = .returned (.string (mkS (txE n es i))) ∧ Below w.heap.size w w')
    (i : Nat) (w : World) (hE : ExsAt q w a es) (hV : VarsAt w) (hin : i < n + 1) (hi : i < es.length) : Calls Tryz.prog 184 #[.slice a es.length c, .int .i64 (i : Int)] w fun e w' => e = .returned (.string (mkS (txE (n + 1) es i))) ∧ Below w.heap.size w w' := by
  obtain ⟨e, he⟩ : ∃ e, es[i]? = some e := ⟨es[i], by simp [hi]⟩
  obtain ⟨b, o, rfl, _, d0, d1, d2, d3, d4, d5, d6, d7⟩ := hE.get he
  have hX := txE_one n es i e he
  have hn := hT.2.2.2 e (List.mem_of_getElem? he)
  have HE := hidX hE
  have HV := hidX hV
  have HI := hidX IH
  have i0 : (0 : Int) ≤ (i : Int) := by omega
  have i1 : (i : Int) < (es.length : Int) := by omega
  clear hE hV IH
  rcases hT.kind he with ⟨k, hv⟩ | ⟨k, hv⟩ | ⟨k, har, pa, pb, ea, eb, hpa, hpb⟩
  · have HX : Hid (txV e.val = txE (n + 1) es i) := show _ = _ from by rw [hX, if_neg (by omega), if_neg (by omega)]
    rw [k] at d0
    clear hX k he
    go_enter Tryz.func184, Tryz.ntmps184
    go_upto_region 7 with fail
    refine lift_alloc ?_
    intro wb hWb hqb
    have c3 : wb.cell? ⟨w.heap.size, 3, none⟩ = some (.int .i64 e.val.kind) := by simp [World.cell?, hqb]
    have c4 : wb.cell? ⟨w.heap.size, 4, none⟩ = some (.int .i64 e.val.num) := by simp [World.cell?, hqb]
    have c5 : wb.cell? ⟨w.heap.size, 5, none⟩ = some (.string e.val.sym) := by simp [World.cell?, hqb]
    clear hqb
    go_wp2_with (go_at_call 182; refine (vText_any e.val _ (HV.out.below hWb) hn).mono ?_; rintro e' w1 ⟨rfl, hb1⟩)
    go_ret
    exact ⟨ret_txt HX.out, hWb.trans (hb1.mono hWb.size)⟩
  · have HX : Hid (63 :: bsOf e.var = txE (n + 1) es i) := show _ = _ from by rw [hX, if_pos k]
    have hs : ¬ 9223372036854775807 < ({ data := #[63] } : ByteArray).size + e.var.size := by
      have := gSym_sz hv
      have : ({ data := #[63] } : ByteArray).size = 1 := rfl
      omega
    rw [k] at d0
    clear hX k he
    have hA : ∀ o, Below w.heap.size w (w.alloc o) := fun o => (Below.refl _ _).alloc (Nat.le_refl _) _
    go_enter Tryz.func184, Tryz.ntmps184
    go_wp2
    go_ret
    refine ⟨?_, hA _⟩
    rw [← HX.out]
    exact congrArg (fun x => Ending.returned (.string x)) (mkS_app' e.var [63])
  · have HX : Hid (40 :: UInt8.ofNat e.op.toNat :: 32 :: (txE n es pa ++ 32 :: (txE n es pb ++ [41])) = txE (n + 1) es i) := show _ = _ from by rw [hX, if_neg (by omega), if_pos k, ea, eb]; rfl
    have HL := hidX (hT.txE_args (n := n) (UInt8.ofNat e.op.toNat) (show pa < es.length by omega) (show pb < es.length by omega))
    have hcv := conv_byte e.op har
    rw [k] at d0
    rw [ea] at d6
    rw [eb] at d7
    have hpa' : pa < n := by omega
    have hpb' : pb < n := by omega
    have hla : pa < es.length := by omega
    have hlb : pb < es.length := by omega
    clear hX k he ea eb har
    go_enter Tryz.func184, Tryz.ntmps184
    go_upto_region 6 with fail
    refine lift_alloc ?_
    intro wb hWb hqb
    have c1 : wb.cell? ⟨w.heap.size, 1, none⟩ = some (.int .u8 e.op) := by simp [World.cell?, hqb]
    have c6 : wb.cell? ⟨w.heap.size, 6, none⟩ = some (.int .i64 (pa : Int)) := by simp [World.cell?, hqb]
    have c7 : wb.cell? ⟨w.heap.size, 7, none⟩ = some (.int .i64 (pb : Int)) := by simp [World.cell?, hqb]
    clear hqb d0 d1 d2 d3 d4 d5 d6 d7
    have HEB := hidX (HE.out.below (hWb.drew))
    have HVB := hidX (HV.out.below (hWb.drew))
    refine wp_region_noPanic ?_
    refine wp_region_held_drew (S := (fun w' => w'.cell? ⟨w.heap.size, 1, none⟩ = some (.int .u8 e.op) ∧ w'.cell? ⟨w.heap.size, 6, none⟩ = some (.int .i64 (pa : Int)) ∧ w'.cell? ⟨w.heap.size, 7, none⟩ = some (.int .i64 (pb : Int)))) (by kernel_rfl) ?_ (fun hHeld => ?_)
    · (try dsimp only)
      exact ⟨c1, c6, c7⟩
    refine tk 0 hHeld ?_
    (try simp only [pA, pZ, pS])
    refine tk 1 hHeld ?_
    (try simp only [pA, pZ, pS])
    refine tk 2 hHeld ?_
    (try simp only [pA, pZ, pS])
    refine tk 3 hHeld ?_
    (try simp only [pA, pZ, pS])
    refine tk 4 hHeld ?_
    (try simp only [pA, pZ, pS])
    refine tk 5 hHeld ?_
    (try simp only [pA, pZ, pS])
    refine tk 7 hHeld ?_
    (try simp only [pA, pZ, pS])
    refine tk 8 hHeld ?_
    (try simp only [pA, pZ, pS])
    refine tk 9 hHeld ?_
    (try simp only [pA, pZ, pS])
    refine wpAnyH_ready (rs := [6]) (by kernel_rfl) (by simp) ?_
    refine AllReadyH.cons (List.getElem?_toArray.trans rfl) (fun K hK => ?_) AllReadyH.nil
    go_simp
    go_at_call 184; refine (HI.out pa _ HEB.out HVB.out hpa' hla).mono ?_; rintro e' w1 ⟨rfl, hb1⟩
    (try go_wp2_with fail)
    refine hK.out _ _ ?hS1 (fun hHeld' => ?rest1)
    case hS1 => ((try dsimp only); exact ⟨cell_below hb1 hHeld.1, cell_below hb1 hHeld.2.1, cell_below hb1 hHeld.2.2⟩)
    clear hK K
    (first | simp only [pA, pZ, pS] | simp only [pN] | skip)
    clear hHeld
    have hHeld := hHeld'
    clear hHeld'
    refine wpAnyH_ready (rs := [10]) (by kernel_rfl) (by simp) ?_
    refine AllReadyH.cons (List.getElem?_toArray.trans rfl) (fun K hK => ?_) AllReadyH.nil
    go_simp
    go_at_call 184; refine (HI.out pb w1 (HEB.out.below hb1) (HVB.out.below hb1) hpb' hlb).mono ?_; rintro e' w2 ⟨rfl, hb2⟩
    (try go_wp2_with fail)
    refine hK.out _ _ ?hS2 (fun hHeld' => ?rest2)
    case hS2 => ((try dsimp only); exact ⟨cell_below hb2 hHeld.1, cell_below hb2 hHeld.2.1, cell_below hb2 hHeld.2.2⟩)
    clear hK K
    (first | simp only [pA, pZ, pS] | simp only [pN] | skip)
    clear hHeld
    have hHeld := hHeld'
    clear hHeld'
    have hA1 : ∀ o, Below w2.heap.size w2 (w2.alloc o) := fun o => (Below.refl _ _).alloc (Nat.le_refl _) _
    refine wpAnyH_ready (rs := [11]) (by kernel_rfl) (by simp) ?_
    refine AllReadyH.cons (List.getElem?_toArray.trans rfl) (fun K hK => ?_) AllReadyH.nil
    go_simp
    refine hK.out _ _ ?hS3 (fun hHeld' => ?rest3)
    case hS3 => ((try dsimp only); exact ⟨cell_below (hA1 _) hHeld.1, cell_below (hA1 _) hHeld.2.1, cell_below (hA1 _) hHeld.2.2⟩)
    clear hK K
    (first | simp only [pA, pZ, pS] | simp only [pN] | skip)
    clear hHeld
    have hHeld := hHeld'
    clear hHeld'
    refine wpAnyH_ready (rs := [12]) (by kernel_rfl) (by simp) ?_
    refine AllReadyH.cons (List.getElem?_toArray.trans rfl) (fun K hK => ?_) AllReadyH.nil
    go_simp
    go_at_call 142; refine (brack_any w2.heap.size 0 3 [[UInt8.ofNat e.op.toNat], txE n es pa, txE n es pb] _ (StrC.block (heap_alloc_new _ _)) (by simp) (by simp) (by simp) HL.out).mono ?_; rintro e' w3 ⟨rfl, hb3⟩
    (try go_wp2_with fail)
    refine hK.out _ _ ?hS4 (fun hHeld' => ?rest4)
    case hS4 => ((try dsimp only); exact ⟨cell_below hb3 hHeld.1, cell_below hb3 hHeld.2.1, cell_below hb3 hHeld.2.2⟩)
    clear hK K
    (first | simp only [pA, pZ, pS] | simp only [pN] | skip)
    clear hHeld
    have hHeld := hHeld'
    clear hHeld'
    refine tk 13 hHeld ?_
    (try simp only [pA, pZ, pS])
    refine wpAnyH_done (by kernel_rfl) ?_ _
    refine NoPanic.normal ?_
    go_wp2
    go_ret
    refine ⟨ret_txt ?_, ?_⟩
    · rw [← HX.out, join_three]
      simp
    · have h1 : Below w2.heap.size w2 w3 := (hA1 _).trans (hb3.mono (hA1 _).size)
      have h2 : Below w1.heap.size w1 w3 := hb2.trans (h1.mono hb2.size)
      have h3 : Below wb.heap.size wb w3 := (Below.refl wb.heap.size wb).drew.trans ((hb1.trans (h2.mono hb1.size)).mono (by simp))
      exact hWb.trans (h3.mono hWb.size)
theorem eText_any {es : List Ex} {S : List Sp} (hT : ExT es S) (a : Option Addr) (c : Nat) (q : Option Nat) : ∀ (n i : Nat) (w : World), ExsAt q w a es → VarsAt w → i < n → i < es.length → Calls Tryz.prog 184 #[.slice a es.length c, .int .i64 (i : Int)] w fun e w' => e = .returned (.string (mkS (txE n es i))) ∧ Below w.heap.size w w'
  | 0, _, _, _, _, h, _ => absurd h (Nat.not_lt_zero _)
  | n + 1, i, w, hE, hV, hin, hi => eText_step hT a c q n (eText_any hT a c q n) i w hE hV hin hi
end Go.Proofs.YtfgpcjdjbbhdmaaGreatDoor

namespace Go.Proofs.YtfgpcjdjbbhdmaaGreatDoor
open Go.RowKit
attribute [local go_sem ↓] Go.wp_at_zero Go.wp_at_succ

def strV (l : List Bs) : List Value := l.map fun x => Value.string (mkS x)
theorem strV_one (l : List Bs) : ∀ u ∈ strV l, u.oneCell' = true := by
  intro u hu
  obtain ⟨s, _, rfl⟩ := List.mem_map.1 hu
  rfl
theorem strV_len (l : List Bs) : (strV l).length = l.length := List.length_map _
theorem infoTx : (Tryz.prog.info? 9).map (fun i => (i.zero, i.size, i.bytes)) = some (some (.string ByteArray.empty), 1, 16) := by kernel_rfl
theorem strV_snoc {w : World} {base n m : Nat} {a : Option Addr} {c : Nat} {l l' : List Bs} {x : Bs} (h : w.ownsRow base 9 1 (.slice a n c) n (strV l ++ [.string (mkS x)])) (hl : l' = l ++ [x]) (hm : m = n) : w.ownsRow base 9 1 (.slice a m c) m (strV l') := by
  subst hl hm
  have e : strV (l ++ [x]) = strV l ++ [.string (mkS x)] := by simp [strV]
  rw [e]
  exact h
/-- A new row, owned. -/
theorem own_fresh {w : World} {g : Nat} {t : TypeId} {L : List Value} {base : Nat} (h : w.heap[g]? = some (.cells L.toArray t (0, 0))) (hb : base ≤ g) (hl : L.length ≤ 1000) : w.ownsRow base t 1 (.slice (some ⟨g, 0, none⟩) L.length L.length) L.length L := by
  refine ⟨by omega, .inr ⟨g, L.length, L.toArray, rfl, hb, h, Nat.le_refl _, by unfold maxLen; omega, by simp, by simp⟩⟩

/-- What a growing list of texts keeps: all that was there at w0. -/
def WsPost (w0 : World) (l : List Bs) (e : Ending) (w' : World) : Prop := ∃ a' c', e = .returned (.slice a' l.length c') ∧ l.length ≤ c' ∧ w'.ownsRow w0.heap.size 9 1 (.slice a' l.length c') l.length (strV l) ∧ Below w0.heap.size w0 w'
theorem own_capX {w : World} {base n : Nat} {e : TypeId} {m : Nat} {a : Option Addr} {c : Nat} {xs : List Value} (h : w.ownsRow base e m (.slice a n c) n xs) : n ≤ c := by
  rcases h.2 with ⟨h, _⟩ | ⟨g, cap, cur, h, _, _, h4, _⟩
  · simp only [Value.slice.injEq] at h
    omega
  · simp only [Value.slice.injEq] at h
    omega

set_option maxHeartbeats 3200000 in
theorem words_any (x0 x1 : Int) (x2 : ByteArray) (args : List Int) (a_args : Option Addr) (c_args : Nat) {es : List Ex} {S : List Sp} (hT : ExT es S) (ha6 : args.length ≤ 6) (hav : ∀ v ∈ args, 0 ≤ v ∧ v < (es.length : Int)) (a : Option Addr) (c : Nat) (q : Option Nat) (w0 w : World) (hb0 : Below w0.heap.size w0 w)
    (hE : ExsAt q w0 a es) (hI : IntsAt q w0 a_args args) (hV : VarsAt w0) (fa : Option Addr) (fc : Nat) (fl : List Bs) (hfl : fl.length ≤ 2) (hown : w.ownsRow w0.heap.size 9 1 (.slice fa fl.length fc) fl.length (strV fl)) :
    Calls Tryz.prog 143 #[.agg #[.int .i64 x0, .int .i64 x1, .string x2, .slice a_args args.length c_args], .slice a es.length c, .slice fa fl.length fc] w (WsPost w0 (fl ++ args.map fun i => txE 60 es i.toNat)) := by
  have HE := hidX hE
  have HI := hidX hI
  have HV := hidX hV
  have HO := hidX hown
  have HAV := hidX hav
  have h60 := hT.1
  have hs0 := hb0.size
  have HA := hidX (fun o => hb0.alloc hb0.size o : ∀ o, Below w0.heap.size w0 (w.alloc o))
  have HAO := hidX (fun o => own_bel hown ((Below.refl _ _).alloc (Nat.le_refl _) o))
  clear hE hI hV hown hav
  go_enter Tryz.func143, Tryz.ntmps143
  go_wp2
  go_loopw [2, 12] (fun sv iv wr => ∃ (k : Nat) (a' : Option Addr) (c' : Nat), k ≤ args.length ∧ iv = .int .i64 (k : Int) ∧ sv = .slice a' (fl.length + k) c' ∧ wr.ownsRow w0.heap.size 9 1 (.slice a' (fl.length + k) c') (fl.length + k) (strV (fl ++ (args.take k).map fun i => txE 60 es i.toNat)) ∧ Below w0.heap.size w0 wr) (fun _ iv _ => args.length - (intOf iv).toNat)
  case atStart => exact ⟨0, fa, fc, Nat.zero_le _, rfl, rfl, by simpa using HAO.out _, HA.out _⟩
  case round =>
    obtain ⟨k, a', c', hk, rfl, rfl, hown, hb⟩ := hrel
    have HR := hidX hown
    have HB := hidX hb
    have hsz := hb.size
    clear hown hb
    by_cases hkl : k < args.length
    · obtain ⟨v, hv⟩ : ∃ v, args[k]? = some v := ⟨args[k], by simp [hkl]⟩
      obtain ⟨hv0, hv1⟩ := HAV.out v (List.mem_of_getElem? hv)
      obtain ⟨m, rfl⟩ : ∃ m : Nat, v = (m : Int) := ⟨v.toNat, by omega⟩
      obtain ⟨b, o, rfl, _, hc⟩ := (HI.out.below HB.out).get hv
      have i0 : (0 : Int) ≤ (k : Int) := by omega
      have i1 : (k : Int) < (args.length : Int) := by omega
      have hm : m < es.length := by omega
      have HL : Hid (fl ++ (args.take (k + 1)).map (fun i => txE 60 es i.toNat) = (fl ++ (args.take k).map (fun i => txE 60 es i.toNat)) ++ [txE 60 es m]) := show _ = _ from by rw [List.take_add_one, hv]; simp
      clear hv hv0 hv1
      go_wp2_with (go_at_call 184; refine (eText_any hT a c q 60 m _ (HE.out.below HB.out) (HV.out.below HB.out) (by omega) hm).mono ?_; rintro e w1 ⟨rfl, hb1⟩; refine Hid.out ?_)
      refine hidX ?_
      have HR1 := hidX (own_bel HR.out hb1)
      have HB1 := hidX (HB.out.trans (hb1.mono hsz))
      have hs1 := hb1.size
      clear hb1
      go_wp2_with (at_builtin; refine wpList_append_any (by rfl) (.tmp 16) (.tmp 20) 112 (by rfl) w0.heap.size 9 _ 1 16 Tryz.underlying112 infoTx (by rfl) (by omega) _ (fl.length + k) _ (by rfl) (own_bel HR1.out ((Below.refl _ _).alloc (Nat.le_refl _) _)) (some ⟨w1.heap.size, 0, none⟩) 1 1 (by rfl) [.string (mkS (txE 60 es m))] (by rfl) (fun e => by cases e) (news_new _ _ _ _ rfl) (by simp [Value.oneCell']) (by unfold maxLen; omega) (by omega) (by simp; omega) ?_; intro a3 c3 w3 ho3 hg3 hl3)
      have HB3 := hidX ((HB1.out.alloc (by omega) _).grown hg3.out (by simp; omega) (fun j hj => by have := (HR1.out.lt j hj).1; exact this))
      go_wp2
      go_roundw
      case rel => exact ⟨k + 1, a3, c3, by omega, by go_num, by rw [Nat.add_assoc], strV_snoc ho3.out HL.out (by omega), HB3.out⟩
      case measure => (simp [intOf]; omega)
    · obtain rfl : k = args.length := by omega
      have i1 : ¬ (args.length : Int) < (args.length : Int) := by omega
      go_wp2
      go_ret
      have h := HR.out
      rw [List.take_length] at h
      have e : (fl ++ args.map fun i => txE 60 es i.toNat).length = fl.length + args.length := by simp
      exact ⟨a', c', by rw [e]; rfl, by rw [e]; exact own_capX h, by rw [e]; exact h, HB.out⟩
end Go.Proofs.YtfgpcjdjbbhdmaaGreatDoor

namespace Go.Proofs.YtfgpcjdjbbhdmaaGreatDoor
open Go.RowKit
attribute [local go_sem ↓] Go.wp_at_zero Go.wp_at_succ

theorem join_args_le {es : List Ex} {S : List Sp} (hT : ExT es S) {args : List Int} (ha6 : args.length ≤ 6) (hav : ∀ v ∈ args, 0 ≤ v ∧ v < (es.length : Int)) (x y : Bs) (hx : x.length ≤ 30) (hy : y.length ≤ 30) : (Lib.join ([x, y] ++ args.map fun i => txE 60 es i.toNat) [32]).length ≤ 10000000000 := by
  show (Lib.join (x :: y :: args.map fun i => txE 60 es i.toNat) [32]).length ≤ _
  rw [join_args]
  have := txArgs_le hT ha6 hav
  simp
  omega
/-- 'bracketed' of what 'words' answers. -/
theorem brack_words {w0 w1 : World} {a' : Option Addr} {c' n : Nat} (l : List Bs) (hn : n = l.length) (h1 : 1 ≤ l.length) (h8 : l.length ≤ 8) (hc : l.length ≤ c') (hown : w1.ownsRow w0.heap.size 9 1 (.slice a' l.length c') l.length (strV l)) (hlen : (Lib.join l [32]).length ≤ 10000000000) :
    Calls Tryz.prog 142 #[.slice a' n c'] w1 fun e w' => e = .returned (.string (mkS (40 :: (Lib.join l [32] ++ [41])))) ∧ Below w1.heap.size w1 w' := by
  subst hn
  obtain ⟨b, rfl, hs, hb⟩ := StrC.owns hown h1
  exact brack_any b 0 c' l w1 hs hb (by omega) hc hlen

set_option maxHeartbeats 3200000 in
theorem aText_any (x : Ac) (a_args : Option Addr) (c_args : Nat) {es : List Ex} {S : List Sp} (hT : ExT es S) (hx : AcT es x) (a : Option Addr) (c : Nat) (q : Option Nat) (w : World)
    (hE : ExsAt q w a es) (hI : IntsAt q w a_args x.args) (hV : VarsAt w) :
    Calls Tryz.prog 93 #[.agg #[.int .i64 x.kind, .int .i64 x.k, .string x.cls, .slice a_args x.args.length c_args], .slice a es.length c] w fun e w' => e = .returned (.string (mkS (txA es x))) ∧ Below w.heap.size w w' := by
  have hcs := hx.cases
  obtain ⟨_, ha6, hav⟩ := hx
  have hA0 : ∀ o, Below w.heap.size w (w.alloc o) := fun o => (Below.refl _ _).alloc (Nat.le_refl _) _
  rcases hcs with ⟨k, hs⟩ | ⟨k, hk, he⟩ | ⟨k, hk⟩ | ⟨k, he⟩
  · obtain ⟨cb, hcb⟩ : ∃ cb, x.cls = mkS cb := ⟨bsOf x.cls, (mkS_bs _).symm⟩
    have HX : Hid (40 :: (addB ++ 32 :: (cb ++ txArgs es x.args) ++ [41]) = txA es x) := show _ = _ from by unfold txA txHead; rw [if_pos k, hcb, bs_mkS]; simp
    have HJ := hidX (join_args_le hT ha6 hav addB cb (by decide) (by rw [hcb, mkS_size] at hs; omega))
    have HE := hidX hE
    have HI := hidX hI
    have HV := hidX hV
    have HAV := hidX hav
    rw [k, hcb]
    clear hE hI hV hav hs k hcb
    go_enter Tryz.func93, Tryz.ntmps93
    go_upto_region 3 with fail
    refine lift_alloc ?_
    intro wb hWb hqb
    have c0 : wb.cell? ⟨w.heap.size, 0, none⟩ = some (.int .i64 1) := by simp [World.cell?, hqb]
    have c1 : wb.cell? ⟨w.heap.size, 1, none⟩ = some (.int .i64 x.k) := by simp [World.cell?, hqb]
    have c2 : wb.cell? ⟨w.heap.size, 2, none⟩ = some (.string (mkS cb)) := by simp [World.cell?, hqb]
    have c3 : wb.cell? ⟨w.heap.size, 3, none⟩ = some (.slice a_args x.args.length c_args) := by simp [World.cell?, hqb]
    have hlt : w.heap.size < wb.heap.size := lt_of_block' hqb
    clear hqb
    have hA1 : ∀ o, Below wb.heap.size wb (wb.alloc o) := fun o => (Below.refl _ _).alloc (Nat.le_refl _) _
    go_wp2_with (go_at_call 143; refine (words_any 1 x.k (mkS cb) x.args a_args c_args hT ha6 HAV.out a c q wb _ (hA1 _) (HE.out.below hWb) (HI.out.below hWb) (HV.out.below hWb) (some ⟨wb.heap.size, 0, none⟩) 2 [addB, cb] (by simp) (own_fresh (L := strV [addB, cb]) (heap_alloc_new _ _) (Nat.le_refl _) (by simp [strV]))).mono ?_; rintro e w1 ⟨a', c', rfl, hc', ho1, hb1⟩; refine Hid.out ?_)
    refine hidX ?_
    go_wp2_with (go_at_call 142; refine (brack_words ([addB, cb] ++ x.args.map fun i => txE 60 es i.toNat) (by simp) (by simp) (by simp; omega) hc' ho1 HJ.out).mono ?_; rintro e w2 ⟨rfl, hb2⟩)
    go_ret
    refine ⟨ret_txt ?_, hWb.trans ((hb1.trans (hb2.mono hb1.size)).mono hWb.size)⟩
    rw [← HX.out]
    show 40 :: (Lib.join (addB :: cb :: x.args.map fun i => txE 60 es i.toNat) [32] ++ [41]) = _
    rw [join_args]
  · have HX : Hid (40 :: (dropB ++ 32 :: Lib.itoa x.k ++ [41]) = txA es x) := show _ = _ from by unfold txA txHead; rw [if_neg (by omega), if_pos k, he]; simp [txArgs]
    have HL := hidX (show (Lib.join [dropB, Lib.itoa x.k] [32]).length ≤ 10000000000 by rw [join_two]; have := Lib.itoa_length_le _ hk.1 hk.2; simp [dropB]; omega)
    have HV := hidX (fun o => hV.below (hA0 o))
    rw [k]
    clear hE hI hV hav he k
    go_enter Tryz.func93, Tryz.ntmps93
    go_wp2_with (go_at_call 144; refine (itoa_any x.k _ (HV.out _) hk).mono ?_; rintro e w1 ⟨rfl, hb1⟩; refine Hid.out ?_)
    refine hidX ?_
    have hA1 : ∀ o, Below w1.heap.size w1 (w1.alloc o) := fun o => (Below.refl _ _).alloc (Nat.le_refl _) _
    go_wp2_with (go_at_call 142; refine (brack_any w1.heap.size 0 2 [dropB, Lib.itoa x.k] _ (StrC.block (heap_alloc_new _ _)) (by simp) (by simp) (by simp) HL.out).mono ?_; rintro e w2 ⟨rfl, hb2⟩)
    go_ret
    refine ⟨ret_txt ?_, (hA0 _).trans ((hb1.trans (((hA1 _).trans (hb2.mono (hA1 _).size)).mono hb1.size)).mono (hA0 _).size)⟩
    rw [← HX.out, join_two]
  · have HX : Hid (40 :: (modB ++ 32 :: (Lib.itoa x.k ++ txArgs es x.args) ++ [41]) = txA es x) := show _ = _ from by unfold txA txHead; rw [if_neg (by omega), if_neg (by omega), if_pos k]; simp
    have HJ := hidX (join_args_le hT ha6 hav modB (Lib.itoa x.k) (by decide) (by have := Lib.itoa_length_le _ hk.1 hk.2; omega))
    have HE := hidX hE
    have HI := hidX hI
    have HV := hidX hV
    have HAV := hidX hav
    rw [k]
    clear hE hI hV hav k
    go_enter Tryz.func93, Tryz.ntmps93
    go_upto_region 7 with fail
    refine lift_alloc ?_
    intro wb hWb hqb
    have c0 : wb.cell? ⟨w.heap.size, 0, none⟩ = some (.int .i64 3) := by simp [World.cell?, hqb]
    have c1 : wb.cell? ⟨w.heap.size, 1, none⟩ = some (.int .i64 x.k) := by simp [World.cell?, hqb]
    have c2 : wb.cell? ⟨w.heap.size, 2, none⟩ = some (.string x.cls) := by simp [World.cell?, hqb]
    have c3 : wb.cell? ⟨w.heap.size, 3, none⟩ = some (.slice a_args x.args.length c_args) := by simp [World.cell?, hqb]
    clear hqb
    have HVB := hidX (HV.out.below (hWb.drew))
    refine wp_region_noPanic ?_
    refine wp_region_held_drew (S := (fun w' => w'.cell? ⟨w.heap.size, 0, none⟩ = some (.int .i64 3) ∧ w'.cell? ⟨w.heap.size, 1, none⟩ = some (.int .i64 x.k) ∧ w'.cell? ⟨w.heap.size, 2, none⟩ = some (.string x.cls) ∧ w'.cell? ⟨w.heap.size, 3, none⟩ = some (.slice a_args x.args.length c_args))) (by kernel_rfl) ?_ (fun hHeld => ?_)
    · (try dsimp only)
      exact ⟨c0, c1, c2, c3⟩
    refine tk 0 hHeld ?_
    (try simp only [pA, pZ, pS])
    refine tk 1 hHeld ?_
    (try simp only [pA, pZ, pS])
    refine tk 2 hHeld ?_
    (try simp only [pA, pZ, pS])
    refine tk 3 hHeld ?_
    (try simp only [pA, pZ, pS])
    refine wpAnyH_ready (rs := [4]) (by kernel_rfl) (by simp) ?_
    refine AllReadyH.cons (List.getElem?_toArray.trans rfl) (fun K hK => ?_) AllReadyH.nil
    go_simp
    go_at_call 144; refine (itoa_any x.k _ HVB.out hk).mono ?_; rintro e' w1 ⟨rfl, hb1⟩
    (try go_wp2_with fail)
    refine hK.out _ _ ?hS8 (fun hHeld' => ?rest8)
    case hS8 => ((try dsimp only); exact ⟨cell_below hb1 hHeld.1, cell_below hb1 hHeld.2.1, cell_below hb1 hHeld.2.2.1, cell_below hb1 hHeld.2.2.2⟩)
    clear hK K
    (first | simp only [pA, pZ, pS] | simp only [pN] | skip)
    clear hHeld
    have hHeld := hHeld'
    clear hHeld'
    have hA1 : ∀ o, Below w1.heap.size w1 (w1.alloc o) := fun o => (Below.refl _ _).alloc (Nat.le_refl _) _
    have hS1 := hHeld
    have hW1 : Below w.heap.size w w1 := hWb.trans (((Below.refl wb.heap.size wb).drew.trans (hb1.mono (by simp))).mono hWb.size)
    refine wpAnyH_ready (rs := [5]) (by kernel_rfl) (by simp) ?_
    refine AllReadyH.cons (List.getElem?_toArray.trans rfl) (fun K hK => ?_) AllReadyH.nil
    go_simp
    refine hK.out _ _ ?hS9 (fun hHeld' => ?rest9)
    case hS9 => ((try dsimp only); exact ⟨cell_below (hA1 _) hHeld.1, cell_below (hA1 _) hHeld.2.1, cell_below (hA1 _) hHeld.2.2.1, cell_below (hA1 _) hHeld.2.2.2⟩)
    clear hK K
    (first | simp only [pA, pZ, pS] | simp only [pN] | skip)
    clear hHeld
    have hHeld := hHeld'
    clear hHeld'
    refine wpAnyH_ready (rs := [6]) (by kernel_rfl) (by simp) ?_
    refine AllReadyH.cons (List.getElem?_toArray.trans rfl) (fun K hK => ?_) AllReadyH.nil
    go_simp
    go_at_call 143; refine (words_any 3 x.k x.cls x.args a_args c_args hT ha6 HAV.out a c q w1 _ (hA1 _) (HE.out.below hW1) (HI.out.below hW1) (HV.out.below hW1) (some ⟨w1.heap.size, 0, none⟩) 2 [modB, Lib.itoa x.k] (by simp) (own_fresh (L := strV [modB, Lib.itoa x.k]) (heap_alloc_new _ _) (Nat.le_refl _) (by simp [strV]))).mono ?_; rintro e' w2 ⟨a', c', rfl, hc', ho2, hb2⟩
    (try go_wp2_with fail)
    refine hK.out _ _ ?hS10 (fun hHeld' => ?rest10)
    case hS10 => ((try dsimp only); exact ⟨cell_below hb2 hS1.1, cell_below hb2 hS1.2.1, cell_below hb2 hS1.2.2.1, cell_below hb2 hS1.2.2.2⟩)
    clear hK K
    (first | simp only [pA, pZ, pS] | simp only [pN] | skip)
    clear hHeld
    have hHeld := hHeld'
    clear hHeld'
    refine wpAnyH_ready (rs := [7]) (by kernel_rfl) (by simp) ?_
    refine AllReadyH.cons (List.getElem?_toArray.trans rfl) (fun K hK => ?_) AllReadyH.nil
    go_simp
    go_at_call 142; refine (brack_words ([modB, Lib.itoa x.k] ++ x.args.map fun i => txE 60 es i.toNat) (by simp) (by simp) (by simp; omega) hc' ho2 HJ.out).mono ?_; rintro e' w3 ⟨rfl, hb3⟩
    (try go_wp2_with fail)
    refine hK.out _ _ ?hS11 (fun hHeld' => ?rest11)
    case hS11 => ((try dsimp only); exact ⟨cell_below hb3 hHeld.1, cell_below hb3 hHeld.2.1, cell_below hb3 hHeld.2.2.1, cell_below hb3 hHeld.2.2.2⟩)
    clear hK K
    (first | simp only [pA, pZ, pS] | simp only [pN] | skip)
    clear hHeld
    have hHeld := hHeld'
    clear hHeld'
    refine tk 8 hHeld ?_
    (try simp only [pA, pZ, pS])
    refine wpAnyH_done (by kernel_rfl) ?_ _
    refine NoPanic.normal ?_
    go_wp2
    go_ret
    refine ⟨ret_txt ?_, hW1.trans ((hb2.trans (hb3.mono hb2.size)).mono hW1.size)⟩
    rw [← HX.out]
    show 40 :: (Lib.join (modB :: Lib.itoa x.k :: x.args.map fun i => txE 60 es i.toNat) [32] ++ [41]) = _
    rw [join_args]
  · have HX : Hid (40 :: (haltB ++ [41]) = txA es x) := show _ = _ from by unfold txA txHead; rw [if_neg (by omega), if_neg (by omega), if_neg (by omega), he]; simp [txArgs]
    have HL := hidX (show (Lib.join [haltB] [32]).length ≤ 10000000000 by rw [Lib.join_one]; decide)
    rw [k]
    clear hE hI hV hav he k
    go_enter Tryz.func93, Tryz.ntmps93
    go_upto_region 8 with fail
    refine lift_alloc ?_
    intro wb hWb _
    have hA1 : ∀ o, Below wb.heap.size wb (wb.alloc o) := fun o => (Below.refl _ _).alloc (Nat.le_refl _) _
    go_wp2_with (go_at_call 142; refine (brack_any wb.heap.size 0 1 [haltB] _ (StrC.block (heap_alloc_new _ _)) (by simp) (by simp) (by simp) HL.out).mono ?_; rintro e w2 ⟨rfl, hb2⟩)
    go_ret
    refine ⟨ret_txt ?_, hWb.trans (((hA1 _).trans (hb2.mono (hA1 _).size)).mono hWb.size)⟩
    rw [← HX.out, Lib.join_one]
end Go.Proofs.YtfgpcjdjbbhdmaaGreatDoor
