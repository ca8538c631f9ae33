/-
  OUR OWN TEXT. The model's actions as texts.
-/
import Derived.Test.YtfgpcjdjbbhdmaaGreatDoorTx14m
namespace Go.Proofs.YtfgpcjdjbbhdmaaGreatDoor
open Go.RowKit
attribute [local go_sem ↓] Go.wp_at_zero Go.wp_at_succ

theorem lift_alloc2 {P : World → Prop} {w : World} {o1 o2 : Obj} (h : ∀ wt, Below w.heap.size w wt → wt.heap[w.heap.size]? = some o1 → wt.heap[w.heap.size + 1]? = some o2 → P wt) : P ((w.alloc o1).alloc o2) := by
  have h1 : (w.alloc o1).heap.size = w.heap.size + 1 := by simp
  refine h _ (((Below.refl _ _).alloc (Nat.le_refl _) _).alloc (by omega) _) ?_ ?_
  · rw [Below.heap_alloc _ _ _ (by omega)]
    exact heap_alloc_new _ _
  · rw [← h1]
    exact heap_alloc_new _ _
theorem txArgs_takeS {es : List Ex} {l : List Int} {k : Nat} {m : Nat} (h : l[k]? = some (m : Int)) : txArgs es (l.take (k + 1)) = txArgs es (l.take k) ++ 32 :: txE 60 es m := by
  unfold txArgs
  rw [flat_takeS _ h]
  rfl
theorem flat_take_leY {α β : Type} (g : α → List β) (l : List α) (j : Nat) : ((l.take j).flatMap g).length ≤ (l.flatMap g).length := by
  have h : l.flatMap g = (l.take j).flatMap g ++ (l.drop j).flatMap g := by
    rw [← List.flatMap_append, List.take_append_drop]
  rw [h, List.length_append]
  omega
theorem cat_sp (x y : Bs) : mkS x ++ (({ data := #[32] } : ByteArray) ++ mkS y) = mkS (x ++ 32 :: y) := by
  have e : ({ data := #[32] } : ByteArray) = mkS [32] := rfl
  rw [e, mkS_app, mkS_app]
  rfl
theorem cat_par (x : Bs) : ({ data := #[40] } : ByteArray) ++ mkS x ++ { data := #[41] } = mkS (40 :: (x ++ [41])) := by
  have e : ∀ x : UInt8, ({ data := #[x] } : ByteArray) = mkS [x] := fun _ => rfl
  rw [e, e, mkS_app, mkS_app]
  simp
theorem cat_pre (l : Bs) (y : Bs) : (⟨l.toArray⟩ : ByteArray) ++ mkS y = mkS (l ++ y) := mkS_app l y

set_option maxHeartbeats 3200000 in
theorem lAct_any (n0 : ByteArray) (s0 : Int) (a1 : Option Addr) (m1 c1 : Nat) (a3 : Option Addr) (m3 c3 : Nat) (x : Ac) (a_args : Option Addr) (c_args : Nat) {es : List Ex} {S : List Sp} (hT : ExT es S) (hx : AcT es x) (a : Option Addr) (c : Nat) (q : Option Nat) (w : World) (hE : ExsAt q w a es) (hI : IntsAt q w a_args x.args) :
    Calls Tryz.prog 43 #[.agg #[.string n0, .int .i64 s0, .slice a1 m1 c1, .slice a es.length c, .slice a3 m3 c3], .agg #[.int .i64 x.kind, .int .i64 x.k, .string x.cls, .slice a_args x.args.length c_args]] w fun e w' => e = .returned (.string (mkS (txA es x))) ∧ Below w.heap.size w w' := by
  have hcs := hx.cases
  have hhl := txHead_le hx
  have hal := txArgs_le hT hx.2.1 hx.2.2
  obtain ⟨_, ha6, hav⟩ := hx
  have h60 := hT.1
  have HXA : Hid (40 :: (txHead x ++ (txArgs es x.args ++ [41])) = txA es x) := rfl
  obtain ⟨hd, hhd⟩ : ∃ hd, hd = txHead x := ⟨_, rfl⟩
  rw [← hhd] at HXA hhl
  obtain ⟨cb, hcb⟩ : ∃ cb, x.cls = mkS cb := ⟨bsOf x.cls, (mkS_bs _).symm⟩
  have HHD := hidX hhd
  have HE := hidX hE
  have HI := hidX hI
  have HAV := hidX hav
  have HCS := hidX hcs
  have HCB := hidX hcb
  rw [hcb]
  clear hE hI hav hcs hhd hcb
  go_enter Tryz.func43, Tryz.ntmps43
  go_upto_region 1 with fail
  refine lift_alloc2 ?_
  intro wb hWb hq1 hq2
  have hlt : w.heap.size + 1 < wb.heap.size := lt_of_block' hq2
  have HB1 := hidX hq1
  have d0 : wb.cell? ⟨w.heap.size + 1, 0, none⟩ = some (.int .i64 x.kind) := by simp [World.cell?, hq2]
  have d1 : wb.cell? ⟨w.heap.size + 1, 1, none⟩ = some (.int .i64 x.k) := by simp [World.cell?, hq2]
  have d2 : wb.cell? ⟨w.heap.size + 1, 2, none⟩ = some (.string (mkS cb)) := by simp [World.cell?, hq2]
  have d3 : wb.cell? ⟨w.heap.size + 1, 3, none⟩ = some (.slice a_args x.args.length c_args) := by simp [World.cell?, hq2]
  have D3 := hidX d3
  clear hq1 hq2 d3
  rcases HCS.out with ⟨k, hs⟩ | ⟨k, hk, hz⟩ | ⟨k, hk⟩ | ⟨k, hz⟩
  · have hcl : cb.length ≤ 20 := by rw [HCB.out, mkS_size] at hs; exact hs
    have HH : Hid (mkS hd = ({ data := #[97, 100, 100, 32] } : ByteArray) ++ mkS cb) := show _ = _ from by rw [HHD.out]; unfold txHead; rw [if_pos k, HCB.out, bs_mkS]; exact (mkS_app [97, 100, 100, 32] cb).symm
    have y1 : ¬ 9223372036854775807 < 4 + (mkS cb).size := by rw [mkS_size]; omega
    have y2 : ¬ 9223372036854775807 < ({ data := #[97, 100, 100, 32] } : ByteArray).size + (mkS cb).size := y1
    rw [k] at d0
    clear hs k
    go_upto_region 10 with fail
    rw [← HH.out]
    have HBC := hidX (show Below wb.heap.size wb wb from Below.refl _ _)
    have e3 : wb.cell? ⟨w.heap.size + 1, 3, none⟩ = some (.slice a_args x.args.length c_args) := (HBC.out.cell (p := ⟨w.heap.size + 1, 3, none⟩) hlt).trans D3.out
    clear d0 d1 d2
    go_wp2
    go_loopw [5, 30] (fun sv iv wr => ∃ k : Nat, k ≤ x.args.length ∧ iv = .int .i64 (k : Int) ∧ sv = .string (mkS (hd ++ txArgs es (x.args.take k))) ∧ Below wb.heap.size wb wr) (fun _ iv _ => x.args.length - (intOf iv).toNat)
    case atStart => exact ⟨0, Nat.zero_le _, rfl, by simp [txArgs], HBC.out⟩
    case round =>
      obtain ⟨k, hk, rfl, rfl, hb⟩ := hrel
      have HB := hidX hb
      have hq1 := (hb.block _ (show w.heap.size < wb.heap.size by omega)).trans HB1.out
      have e1 : wr.cell? ⟨w.heap.size, 3, none⟩ = some (.slice a es.length c) := by simp [World.cell?, hq1]
      have HW := hidX (hWb.trans (hb.mono hWb.size))
      have hsz := hb.size
      have htk : (txArgs es (x.args.take k)).length ≤ (txArgs es x.args).length := flat_take_leY _ _ _
      clear hb hq1 HBC e3
      by_cases hkl : k < x.args.length
      · obtain ⟨v, hv⟩ : ∃ v, x.args[k]? = some v := ⟨x.args[k], by simp [hkl]⟩
        obtain ⟨hv0, hv1⟩ := HAV.out v (List.mem_of_getElem? hv)
        obtain ⟨m, rfl⟩ : ∃ m : Nat, v = (m : Int) := ⟨v.toNat, by omega⟩
        obtain ⟨b, o, rfl, _, hc⟩ := (HI.out.below HW.out).get hv
        have i0 : (0 : Int) ≤ (k : Int) := by omega
        have i1 : (k : Int) < (x.args.length : Int) := by omega
        have hm : m < es.length := by omega
        have HTS := hidX (txArgs_takeS (es := es) hv)
        have hmE := txE_short hT 60 m hm
        obtain ⟨Z, hZ⟩ : ∃ Z, Z = hd ++ txArgs es (x.args.take k) := ⟨_, rfl⟩
        have hZl : Z.length ≤ 400000000 := by rw [hZ, List.length_append]; omega
        have HZ := hidX hZ
        rw [← hZ]
        have y1 : ¬ 9223372036854775807 < 1 + (mkS (txE 60 es m)).size := by rw [mkS_size]; omega
        have y2 : ¬ 9223372036854775807 < (mkS Z).size + (({ data := #[32] } : ByteArray) ++ mkS (txE 60 es m)).size := by rw [ByteArray.size_append, mkS_size, mkS_size, sz_one]; omega
        have y3 : ¬ 9223372036854775807 < (mkS Z).size + (({ data := #[32] } : ByteArray).size + (mkS (txE 60 es m)).size) := by rw [mkS_size, mkS_size, sz_one]; omega
        have y4 : ¬ 9223372036854775807 < (mkS Z).size + (1 + (mkS (txE 60 es m)).size) := by rw [mkS_size, mkS_size]; omega
        clear hv hv0 hv1 hZ htk
        go_wp2_with (go_at_call 86; refine (lExpr_any hT a c q 60 m _ (HE.out.below HW.out) (by omega) hm).mono ?_; rintro e w1 ⟨rfl, hb1⟩)
        go_roundw
        case rel => exact ⟨k + 1, by omega, by go_num, by rw [cat_sp, HTS.out, HZ.out, List.append_assoc], HB.out.trans (hb1.mono hsz)⟩
        case measure => (simp [intOf]; omega)
      · obtain rfl : k = x.args.length := by omega
        have i1 : ¬ (x.args.length : Int) < (x.args.length : Int) := by omega
        rw [List.take_length]
        obtain ⟨Z, hZ⟩ : ∃ Z, Z = hd ++ txArgs es x.args := ⟨_, rfl⟩
        have hZl : Z.length ≤ 400000000 := by rw [hZ, List.length_append]; omega
        have HZ := hidX hZ
        rw [← hZ]
        have y1 : ¬ 9223372036854775807 < 1 + (mkS Z).size := by rw [mkS_size]; omega
        have y2 : ¬ 9223372036854775807 < (({ data := #[40] } : ByteArray) ++ mkS Z).size + 1 := by rw [ByteArray.size_append, mkS_size, sz_one]; omega
        have y3 : ¬ 9223372036854775807 < ({ data := #[40] } : ByteArray).size + (mkS Z).size + 1 := by rw [mkS_size, sz_one]; omega
        have y4 : ¬ 9223372036854775807 < 1 + (mkS Z).size + 1 := by rw [mkS_size]; omega
        clear hZ htk
        go_wp2
        go_ret
        refine ⟨?_, HW.out⟩
        rw [← HXA.out, ← List.append_assoc, ← HZ.out]
        exact congrArg (fun x => Ending.returned (.string x)) (cat_par Z)
  · have HH : Hid (mkS hd = ({ data := #[100, 114, 111, 112, 32] } : ByteArray) ++ mkS (Lib.itoa x.k)) := show _ = _ from by rw [HHD.out]; unfold txHead; rw [if_neg (by omega), if_pos k]; exact (mkS_app [100, 114, 111, 112, 32] _).symm
    have hil := Lib.itoa_length_le _ hk.1 hk.2
    have y1 : ¬ 9223372036854775807 < 5 + (mkS (Lib.itoa x.k)).size := by rw [mkS_size]; omega
    have y2 : ¬ 9223372036854775807 < ({ data := #[100, 114, 111, 112, 32] } : ByteArray).size + (mkS (Lib.itoa x.k)).size := y1
    rw [k] at d0
    clear k hz
    go_upto_region 10 with (go_at_call 41; refine (l1Dec_num x.k _ hk).mono ?_; rintro e w1 ⟨rfl, hb1⟩)
    rw [← HH.out]
    have HBC := hidX (show Below wb.heap.size wb w1 from hb1)
    have e3 : w1.cell? ⟨w.heap.size + 1, 3, none⟩ = some (.slice a_args x.args.length c_args) := (HBC.out.cell (p := ⟨w.heap.size + 1, 3, none⟩) hlt).trans D3.out
    clear d0 d1 d2
    go_wp2
    go_loopw [5, 30] (fun sv iv wr => ∃ k : Nat, k ≤ x.args.length ∧ iv = .int .i64 (k : Int) ∧ sv = .string (mkS (hd ++ txArgs es (x.args.take k))) ∧ Below wb.heap.size wb wr) (fun _ iv _ => x.args.length - (intOf iv).toNat)
    case atStart => exact ⟨0, Nat.zero_le _, rfl, by simp [txArgs], HBC.out⟩
    case round =>
      obtain ⟨k, hk, rfl, rfl, hb⟩ := hrel
      have HB := hidX hb
      have hq1 := (hb.block _ (show w.heap.size < wb.heap.size by omega)).trans HB1.out
      have e1 : wr.cell? ⟨w.heap.size, 3, none⟩ = some (.slice a es.length c) := by simp [World.cell?, hq1]
      have HW := hidX (hWb.trans (hb.mono hWb.size))
      have hsz := hb.size
      have htk : (txArgs es (x.args.take k)).length ≤ (txArgs es x.args).length := flat_take_leY _ _ _
      clear hb hq1 HBC e3
      by_cases hkl : k < x.args.length
      · obtain ⟨v, hv⟩ : ∃ v, x.args[k]? = some v := ⟨x.args[k], by simp [hkl]⟩
        obtain ⟨hv0, hv1⟩ := HAV.out v (List.mem_of_getElem? hv)
        obtain ⟨m, rfl⟩ : ∃ m : Nat, v = (m : Int) := ⟨v.toNat, by omega⟩
        obtain ⟨b, o, rfl, _, hc⟩ := (HI.out.below HW.out).get hv
        have i0 : (0 : Int) ≤ (k : Int) := by omega
        have i1 : (k : Int) < (x.args.length : Int) := by omega
        have hm : m < es.length := by omega
        have HTS := hidX (txArgs_takeS (es := es) hv)
        have hmE := txE_short hT 60 m hm
        obtain ⟨Z, hZ⟩ : ∃ Z, Z = hd ++ txArgs es (x.args.take k) := ⟨_, rfl⟩
        have hZl : Z.length ≤ 400000000 := by rw [hZ, List.length_append]; omega
        have HZ := hidX hZ
        rw [← hZ]
        have y1 : ¬ 9223372036854775807 < 1 + (mkS (txE 60 es m)).size := by rw [mkS_size]; omega
        have y2 : ¬ 9223372036854775807 < (mkS Z).size + (({ data := #[32] } : ByteArray) ++ mkS (txE 60 es m)).size := by rw [ByteArray.size_append, mkS_size, mkS_size, sz_one]; omega
        have y3 : ¬ 9223372036854775807 < (mkS Z).size + (({ data := #[32] } : ByteArray).size + (mkS (txE 60 es m)).size) := by rw [mkS_size, mkS_size, sz_one]; omega
        have y4 : ¬ 9223372036854775807 < (mkS Z).size + (1 + (mkS (txE 60 es m)).size) := by rw [mkS_size, mkS_size]; omega
        clear hv hv0 hv1 hZ htk
        go_wp2_with (go_at_call 86; refine (lExpr_any hT a c q 60 m _ (HE.out.below HW.out) (by omega) hm).mono ?_; rintro e w1 ⟨rfl, hb1⟩)
        go_roundw
        case rel => exact ⟨k + 1, by omega, by go_num, by rw [cat_sp, HTS.out, HZ.out, List.append_assoc], HB.out.trans (hb1.mono hsz)⟩
        case measure => (simp [intOf]; omega)
      · obtain rfl : k = x.args.length := by omega
        have i1 : ¬ (x.args.length : Int) < (x.args.length : Int) := by omega
        rw [List.take_length]
        obtain ⟨Z, hZ⟩ : ∃ Z, Z = hd ++ txArgs es x.args := ⟨_, rfl⟩
        have hZl : Z.length ≤ 400000000 := by rw [hZ, List.length_append]; omega
        have HZ := hidX hZ
        rw [← hZ]
        have y1 : ¬ 9223372036854775807 < 1 + (mkS Z).size := by rw [mkS_size]; omega
        have y2 : ¬ 9223372036854775807 < (({ data := #[40] } : ByteArray) ++ mkS Z).size + 1 := by rw [ByteArray.size_append, mkS_size, sz_one]; omega
        have y3 : ¬ 9223372036854775807 < ({ data := #[40] } : ByteArray).size + (mkS Z).size + 1 := by rw [mkS_size, sz_one]; omega
        have y4 : ¬ 9223372036854775807 < 1 + (mkS Z).size + 1 := by rw [mkS_size]; omega
        clear hZ htk
        go_wp2
        go_ret
        refine ⟨?_, HW.out⟩
        rw [← HXA.out, ← List.append_assoc, ← HZ.out]
        exact congrArg (fun x => Ending.returned (.string x)) (cat_par Z)
  · have HH : Hid (mkS hd = ({ data := #[109, 111, 100, 32] } : ByteArray) ++ mkS (Lib.itoa x.k)) := show _ = _ from by rw [HHD.out]; unfold txHead; rw [if_neg (by omega), if_neg (by omega), if_pos k]; exact (mkS_app [109, 111, 100, 32] _).symm
    have hil := Lib.itoa_length_le _ hk.1 hk.2
    have y1 : ¬ 9223372036854775807 < 4 + (mkS (Lib.itoa x.k)).size := by rw [mkS_size]; omega
    have y2 : ¬ 9223372036854775807 < ({ data := #[109, 111, 100, 32] } : ByteArray).size + (mkS (Lib.itoa x.k)).size := y1
    rw [k] at d0
    clear k
    go_upto_region 10 with (go_at_call 41; refine (l1Dec_num x.k _ hk).mono ?_; rintro e w1 ⟨rfl, hb1⟩)
    rw [← HH.out]
    have HBC := hidX (show Below wb.heap.size wb w1 from hb1)
    have e3 : w1.cell? ⟨w.heap.size + 1, 3, none⟩ = some (.slice a_args x.args.length c_args) := (HBC.out.cell (p := ⟨w.heap.size + 1, 3, none⟩) hlt).trans D3.out
    clear d0 d1 d2
    go_wp2
    go_loopw [5, 30] (fun sv iv wr => ∃ k : Nat, k ≤ x.args.length ∧ iv = .int .i64 (k : Int) ∧ sv = .string (mkS (hd ++ txArgs es (x.args.take k))) ∧ Below wb.heap.size wb wr) (fun _ iv _ => x.args.length - (intOf iv).toNat)
    case atStart => exact ⟨0, Nat.zero_le _, rfl, by simp [txArgs], HBC.out⟩
    case round =>
      obtain ⟨k, hk, rfl, rfl, hb⟩ := hrel
      have HB := hidX hb
      have hq1 := (hb.block _ (show w.heap.size < wb.heap.size by omega)).trans HB1.out
      have e1 : wr.cell? ⟨w.heap.size, 3, none⟩ = some (.slice a es.length c) := by simp [World.cell?, hq1]
      have HW := hidX (hWb.trans (hb.mono hWb.size))
      have hsz := hb.size
      have htk : (txArgs es (x.args.take k)).length ≤ (txArgs es x.args).length := flat_take_leY _ _ _
      clear hb hq1 HBC e3
      by_cases hkl : k < x.args.length
      · obtain ⟨v, hv⟩ : ∃ v, x.args[k]? = some v := ⟨x.args[k], by simp [hkl]⟩
        obtain ⟨hv0, hv1⟩ := HAV.out v (List.mem_of_getElem? hv)
        obtain ⟨m, rfl⟩ : ∃ m : Nat, v = (m : Int) := ⟨v.toNat, by omega⟩
        obtain ⟨b, o, rfl, _, hc⟩ := (HI.out.below HW.out).get hv
        have i0 : (0 : Int) ≤ (k : Int) := by omega
        have i1 : (k : Int) < (x.args.length : Int) := by omega
        have hm : m < es.length := by omega
        have HTS := hidX (txArgs_takeS (es := es) hv)
        have hmE := txE_short hT 60 m hm
        obtain ⟨Z, hZ⟩ : ∃ Z, Z = hd ++ txArgs es (x.args.take k) := ⟨_, rfl⟩
        have hZl : Z.length ≤ 400000000 := by rw [hZ, List.length_append]; omega
        have HZ := hidX hZ
        rw [← hZ]
        have y1 : ¬ 9223372036854775807 < 1 + (mkS (txE 60 es m)).size := by rw [mkS_size]; omega
        have y2 : ¬ 9223372036854775807 < (mkS Z).size + (({ data := #[32] } : ByteArray) ++ mkS (txE 60 es m)).size := by rw [ByteArray.size_append, mkS_size, mkS_size, sz_one]; omega
        have y3 : ¬ 9223372036854775807 < (mkS Z).size + (({ data := #[32] } : ByteArray).size + (mkS (txE 60 es m)).size) := by rw [mkS_size, mkS_size, sz_one]; omega
        have y4 : ¬ 9223372036854775807 < (mkS Z).size + (1 + (mkS (txE 60 es m)).size) := by rw [mkS_size, mkS_size]; omega
        clear hv hv0 hv1 hZ htk
        go_wp2_with (go_at_call 86; refine (lExpr_any hT a c q 60 m _ (HE.out.below HW.out) (by omega) hm).mono ?_; rintro e w1 ⟨rfl, hb1⟩)
        go_roundw
        case rel => exact ⟨k + 1, by omega, by go_num, by rw [cat_sp, HTS.out, HZ.out, List.append_assoc], HB.out.trans (hb1.mono hsz)⟩
        case measure => (simp [intOf]; omega)
      · obtain rfl : k = x.args.length := by omega
        have i1 : ¬ (x.args.length : Int) < (x.args.length : Int) := by omega
        rw [List.take_length]
        obtain ⟨Z, hZ⟩ : ∃ Z, Z = hd ++ txArgs es x.args := ⟨_, rfl⟩
        have hZl : Z.length ≤ 400000000 := by rw [hZ, List.length_append]; omega
        have HZ := hidX hZ
        rw [← hZ]
        have y1 : ¬ 9223372036854775807 < 1 + (mkS Z).size := by rw [mkS_size]; omega
        have y2 : ¬ 9223372036854775807 < (({ data := #[40] } : ByteArray) ++ mkS Z).size + 1 := by rw [ByteArray.size_append, mkS_size, sz_one]; omega
        have y3 : ¬ 9223372036854775807 < ({ data := #[40] } : ByteArray).size + (mkS Z).size + 1 := by rw [mkS_size, sz_one]; omega
        have y4 : ¬ 9223372036854775807 < 1 + (mkS Z).size + 1 := by rw [mkS_size]; omega
        clear hZ htk
        go_wp2
        go_ret
        refine ⟨?_, HW.out⟩
        rw [← HXA.out, ← List.append_assoc, ← HZ.out]
        exact congrArg (fun x => Ending.returned (.string x)) (cat_par Z)
  · have HH : Hid (mkS hd = ({ data := #[104, 97, 108, 116] } : ByteArray)) := show _ = _ from by rw [HHD.out]; unfold txHead; rw [if_neg (by omega), if_neg (by omega), if_neg (by omega)]; rfl
    rw [k] at d0
    clear k hz
    go_upto_region 10 with fail
    rw [← HH.out]
    have HBC := hidX (show Below wb.heap.size wb wb from Below.refl _ _)
    have e3 : wb.cell? ⟨w.heap.size + 1, 3, none⟩ = some (.slice a_args x.args.length c_args) := (HBC.out.cell (p := ⟨w.heap.size + 1, 3, none⟩) hlt).trans D3.out
    clear d0 d1 d2
    go_wp2
    go_loopw [5, 30] (fun sv iv wr => ∃ k : Nat, k ≤ x.args.length ∧ iv = .int .i64 (k : Int) ∧ sv = .string (mkS (hd ++ txArgs es (x.args.take k))) ∧ Below wb.heap.size wb wr) (fun _ iv _ => x.args.length - (intOf iv).toNat)
    case atStart => exact ⟨0, Nat.zero_le _, rfl, by simp [txArgs], HBC.out⟩
    case round =>
      obtain ⟨k, hk, rfl, rfl, hb⟩ := hrel
      have HB := hidX hb
      have hq1 := (hb.block _ (show w.heap.size < wb.heap.size by omega)).trans HB1.out
      have e1 : wr.cell? ⟨w.heap.size, 3, none⟩ = some (.slice a es.length c) := by simp [World.cell?, hq1]
      have HW := hidX (hWb.trans (hb.mono hWb.size))
      have hsz := hb.size
      have htk : (txArgs es (x.args.take k)).length ≤ (txArgs es x.args).length := flat_take_leY _ _ _
      clear hb hq1 HBC e3
      by_cases hkl : k < x.args.length
      · obtain ⟨v, hv⟩ : ∃ v, x.args[k]? = some v := ⟨x.args[k], by simp [hkl]⟩
        obtain ⟨hv0, hv1⟩ := HAV.out v (List.mem_of_getElem? hv)
        obtain ⟨m, rfl⟩ : ∃ m : Nat, v = (m : Int) := ⟨v.toNat, by omega⟩
        obtain ⟨b, o, rfl, _, hc⟩ := (HI.out.below HW.out).get hv
        have i0 : (0 : Int) ≤ (k : Int) := by omega
        have i1 : (k : Int) < (x.args.length : Int) := by omega
        have hm : m < es.length := by omega
        have HTS := hidX (txArgs_takeS (es := es) hv)
        have hmE := txE_short hT 60 m hm
        obtain ⟨Z, hZ⟩ : ∃ Z, Z = hd ++ txArgs es (x.args.take k) := ⟨_, rfl⟩
        have hZl : Z.length ≤ 400000000 := by rw [hZ, List.length_append]; omega
        have HZ := hidX hZ
        rw [← hZ]
        have y1 : ¬ 9223372036854775807 < 1 + (mkS (txE 60 es m)).size := by rw [mkS_size]; omega
        have y2 : ¬ 9223372036854775807 < (mkS Z).size + (({ data := #[32] } : ByteArray) ++ mkS (txE 60 es m)).size := by rw [ByteArray.size_append, mkS_size, mkS_size, sz_one]; omega
        have y3 : ¬ 9223372036854775807 < (mkS Z).size + (({ data := #[32] } : ByteArray).size + (mkS (txE 60 es m)).size) := by rw [mkS_size, mkS_size, sz_one]; omega
        have y4 : ¬ 9223372036854775807 < (mkS Z).size + (1 + (mkS (txE 60 es m)).size) := by rw [mkS_size, mkS_size]; omega
        clear hv hv0 hv1 hZ htk
        go_wp2_with (go_at_call 86; refine (lExpr_any hT a c q 60 m _ (HE.out.below HW.out) (by omega) hm).mono ?_; rintro e w1 ⟨rfl, hb1⟩)
        go_roundw
        case rel => exact ⟨k + 1, by omega, by go_num, by rw [cat_sp, HTS.out, HZ.out, List.append_assoc], HB.out.trans (hb1.mono hsz)⟩
        case measure => (simp [intOf]; omega)
      · obtain rfl : k = x.args.length := by omega
        have i1 : ¬ (x.args.length : Int) < (x.args.length : Int) := by omega
        rw [List.take_length]
        obtain ⟨Z, hZ⟩ : ∃ Z, Z = hd ++ txArgs es x.args := ⟨_, rfl⟩
        have hZl : Z.length ≤ 400000000 := by rw [hZ, List.length_append]; omega
        have HZ := hidX hZ
        rw [← hZ]
        have y1 : ¬ 9223372036854775807 < 1 + (mkS Z).size := by rw [mkS_size]; omega
        have y2 : ¬ 9223372036854775807 < (({ data := #[40] } : ByteArray) ++ mkS Z).size + 1 := by rw [ByteArray.size_append, mkS_size, sz_one]; omega
        have y3 : ¬ 9223372036854775807 < ({ data := #[40] } : ByteArray).size + (mkS Z).size + 1 := by rw [mkS_size, sz_one]; omega
        have y4 : ¬ 9223372036854775807 < 1 + (mkS Z).size + 1 := by rw [mkS_size]; omega
        clear hZ htk
        go_wp2
        go_ret
        refine ⟨?_, HW.out⟩
        rw [← HXA.out, ← List.append_assoc, ← HZ.out]
        exact congrArg (fun x => Ending.returned (.string x)) (cat_par Z)
end Go.Proofs.YtfgpcjdjbbhdmaaGreatDoor
