/-
  OUR OWN TEXT. EvalExpr: the model's side: quotients, rests, products; a variable's value; an operation.
-/
import Derived.Test.YtpiglmkpmlogjaaEw4
namespace Go.Proofs.Ytpiglmkpmlogjaa
open Go.RowKit
attribute [local go_sem ↓] Go.wp_at_zero Go.wp_at_succ

theorem ret_cl {n m c : Int} (h : n = m) : Ending.returned (.tuple #[.int .i64 n, .int .i64 c]) = .returned (clV (m, c)) := by
  rw [h]
  rfl
set_option maxHeartbeats 1600000 in
theorem calcS_47 (a b : Int) (w : World) (ha : fits a = true) (hb : fits b = true) :
    Calls Try.prog 183 #[.int .u8 47, .int .i64 a, .int .i64 b] w fun e w' => e = .returned (clV (calc1 47 a b)) ∧ Below w.heap.size w w' := by
  by_cases h0 : b = 0
  · subst h0
    rw [show calc1 47 a 0 = (0, 7) from rfl]
    go_enter Try.func183, Try.ntmps183
    go_wp2
    go_ret2
    exact ⟨rfl, Below.refl _ _⟩
  · rw [calc_div h0]
    have ht := tdiv_fits ha hb h0
    by_cases hl : a = least ∧ b = -1
    · obtain ⟨rfl, rfl⟩ := hl
      rw [narrow_n (by cases h : fits (Int.tdiv least (-1)) with | false => rfl | true => exact absurd ⟨rfl, rfl⟩ (ht.1 h))]
      unfold least
      clear ht ha hb
      go_enter Try.func183, Try.ntmps183
      go_wp2
      go_ret2
      exact ⟨rfl, Below.refl _ _⟩
    · have hf := ht.2 hl
      rw [narrow_y hf]
      have hw : Go.RowKit.wrap64 (a.tdiv b) = a.tdiv b := by rw [w64]; exact wrap64_fit hf
      have HW := hidE hw
      clear hw ht hf ha hb
      by_cases hl1 : a = -9223372036854775808
      · have hb1 : ¬ b = -1 := fun h => hl ⟨hl1, h⟩
        have hq : (a == -9223372036854775808) = true := by simpa using hl1
        clear hl hl1
        go_enter Try.func183, Try.ntmps183
        go_wp2
        go_ret2
        exact ⟨ret_cl HW.out, Below.refl _ _⟩
      · clear hl
        go_enter Try.func183, Try.ntmps183
        go_wp2
        go_ret2
        exact ⟨ret_cl HW.out, Below.refl _ _⟩

theorem tmod_neg1 (a : Int) : a.tmod (-1) = 0 := by
  rw [Int.tmod_neg]
  exact Int.tmod_one a
set_option maxHeartbeats 1600000 in
theorem calcS_37 (a b : Int) (w : World) :
    Calls Try.prog 183 #[.int .u8 37, .int .i64 a, .int .i64 b] w fun e w' => e = .returned (clV (calc1 37 a b)) ∧ Below w.heap.size w w' := by
  by_cases h0 : b = 0
  · subst h0
    rw [show calc1 37 a 0 = (0, 7) from rfl]
    go_enter Try.func183, Try.ntmps183
    go_wp2
    go_ret2
    exact ⟨rfl, Below.refl _ _⟩
  · rw [calc_mod h0]
    by_cases h1 : b = -1
    · subst h1
      rw [tmod_neg1]
      go_enter Try.func183, Try.ntmps183
      go_wp2
      go_ret2
      exact ⟨rfl, Below.refl _ _⟩
    · go_enter Try.func183, Try.ntmps183
      go_wp2
      go_ret2
      exact ⟨rfl, Below.refl _ _⟩

theorem sgn_mul (a b : Int) : sgn (decide (a < 0) != decide (b < 0)) (a.natAbs * b.natAbs) = a * b := by
  by_cases h1 : a < 0 <;> by_cases h2 : b < 0
  · have e1 : a = -(a.natAbs : Int) := by omega
    have e2 : b = -(b.natAbs : Int) := by omega
    rw [decide_eq_true h1, decide_eq_true h2]
    show ((a.natAbs * b.natAbs : Nat) : Int) = a * b
    generalize a.natAbs = m at *
    generalize b.natAbs = n at *
    rw [e1, e2, Int.natCast_mul, Int.neg_mul_neg]
  · have e1 : a = -(a.natAbs : Int) := by omega
    have e2 : b = (b.natAbs : Int) := by omega
    rw [decide_eq_true h1, decide_eq_false h2]
    show -((a.natAbs * b.natAbs : Nat) : Int) = a * b
    generalize a.natAbs = m at *
    generalize b.natAbs = n at *
    rw [e1, e2, Int.natCast_mul, Int.neg_mul]
  · have e1 : a = (a.natAbs : Int) := by omega
    have e2 : b = -(b.natAbs : Int) := by omega
    rw [decide_eq_false h1, decide_eq_true h2]
    show -((a.natAbs * b.natAbs : Nat) : Int) = a * b
    generalize a.natAbs = m at *
    generalize b.natAbs = n at *
    rw [e1, e2, Int.natCast_mul, Int.mul_neg]
  · have e1 : a = (a.natAbs : Int) := by omega
    have e2 : b = (b.natAbs : Int) := by omega
    rw [decide_eq_false h1, decide_eq_false h2]
    show ((a.natAbs * b.natAbs : Nat) : Int) = a * b
    generalize a.natAbs = m at *
    generalize b.natAbs = n at *
    rw [e1, e2, Int.natCast_mul]
set_option maxRecDepth 100000 in
set_option maxHeartbeats 1600000 in
theorem calcS_42 (a b : Int) (w : World) (ha : fits a = true) (hb : fits b = true) :
    Calls Try.prog 183 #[.int .u8 42, .int .i64 a, .int .i64 b] w fun e w' => e = .returned (clV (calc1 42 a b)) ∧ Below w.heap.size w w' := by
  rw [show calc1 42 a b = narrow (a * b) from rfl]
  have HA := hidE (fun w' => wideOf_any a w' ha)
  have HB := hidE (fun w' => wideOf_any b w' hb)
  have HSM : Hid (sgn (!(decide (a < 0) == decide (b < 0))) (a.natAbs * b.natAbs) = a * b) := sgn_mul a b
  have hla : dval (digs a.natAbs 4) = a.natAbs := digs_val 4 _ (by rw [fits_iff] at ha; omega)
  have hlb : dval (digs b.natAbs 4) = b.natAbs := digs_val 4 _ (by rw [fits_iff] at hb; omega)
  have HLA := hidE hla
  have HLB := hidE hlb
  have HDG := hidE (fun w' ax ca bx cb (h1 : DsAt w' ax (digs a.natAbs 4)) (h2 : DsAt w' bx (digs b.natAbs 4)) => digits_any ax bx ca cb (digs a.natAbs 4) (digs b.natAbs 4) w' h1 h2 (digs_len 4 _) (digs_len 4 _) (digs_lt 4 _) (digs_lt 4 _))
  rw [HLA.out, HLB.out] at HDG
  generalize decide (a < 0) = na at HA HSM
  generalize decide (b < 0) = nb at HB HSM
  clear hla hlb
  go_enter Try.func183, Try.ntmps183
  go_wp2_with fail
  refine (HA.out _).mono ?_
  rintro e w1 ⟨⟨a1, c1, rfl, o1⟩, hb1⟩
  have O1 := hidE o1
  have A1 : ∀ o, Below w1.heap.size w1 (w1.alloc o) := fun o => (Below.refl _ _).alloc (Nat.le_refl _) _
  clear o1
  go_wp2_with fail
  refine (HB.out _).mono ?_
  rintro e w2 ⟨⟨a2, c2, rfl, o2⟩, hb2⟩
  have O2 := hidE o2
  have x0 : w2.cell? ⟨w1.heap.size, 0, none⟩ = some (.bool na) := cell_below hb2 (by simp [go_sem])
  have x1 : w2.cell? ⟨w1.heap.size, 1, none⟩ = some (.slice a1 4 c1) := cell_below hb2 (by simp [go_sem])
  have hB2 : Below w1.heap.size w1 w2 := (A1 _).trans (hb2.mono (A1 _).size)
  have hl1 : w1.heap.size < w2.heap.size := by
    have := hb2.size
    simp at this
    omega
  have hW2 : Below w.heap.size w w2 := hb1.trans (hB2.mono hb1.size)
  have A2 : ∀ o, Below w2.heap.size w2 (w2.alloc o).drew := fun o => ((Below.refl _ _).alloc (Nat.le_refl _) _).drew
  have HD2 := hidE (fun o => HDG.out (w2.alloc o).drew a1 c1 a2 c2 (((DsAt.owns O1.out).below hB2).below (A2 o)) ((DsAt.owns O2.out).below (A2 o)))
  have HA2 := hidE A2
  have HW2 := hidE hW2
  clear o2 hb2 A1 A2 HA HB HDG hb1 hW2
  go_wp2_with fail
  have y0 := fun o => cell_below (HA2.out o) x0
  have y1 := fun o => cell_below (HA2.out o) x1
  go_region_held3 (fun w' => w'.cell? ⟨w1.heap.size, 0, none⟩ = some (.bool na) ∧ w'.cell? ⟨w1.heap.size, 1, none⟩ = some (.slice a1 4 c1) ∧ w'.cell? ⟨w2.heap.size, 0, none⟩ = some (.bool nb) ∧ w'.cell? ⟨w2.heap.size, 1, none⟩ = some (.slice a2 4 c2))
    (first | (go_split_ands; (refine ⟨?_, ?_, ?_, ?_⟩ <;> first | with_reducible assumption | with_reducible exact y0 _ | with_reducible exact y1 _ | with_reducible exact cell_below hb3 (by assumption) | with_reducible exact cell_below hb4 (by assumption) | (simp [go_sem]; done)); done) | fail)
    (first | (go_at_call 221; with_reducible refine (HD2.out _).mono ?_; rintro e w3 ⟨⟨g, zs, rfl, hdb, hzl, hzs, hzv⟩, hb3⟩; have HZV := hidE hzv; have hW3 := (HA2.out _).trans (hb3.mono (HA2.out _).size); have HW3 := hidE hW3; have HNR := hidE (narrowS_any (!(na == nb)) g zs w3 hdb hzl hzs); clear hzv hW3 hdb hzl) | (go_at_call 220; with_reducible refine HNR.out.mono ?_; rintro e w4 ⟨⟨n, rfl, hn⟩, hb4⟩) | fail)
  have HB4 : Hid (Below w.heap.size w w4) := (HW2.out.trans (HW3.out.mono HW2.out.size)).trans (hb4.mono (by have h1 := HW2.out.size; have h2 := HW3.out.size; omega))
  have HNN := hidE hn
  rw [HZV.out, HSM.out] at HNN
  have HFE : Hid (fits (sgn (!(na == nb)) (dval zs)) = fits (a * b)) := show fits _ = _ from by rw [HZV.out, HSM.out]
  generalize fits (sgn (!(na == nb)) (dval zs)) = ff at HFE
  clear hn hb3 hb4 HNR HD2 HA2 x0 x1 y0 y1 hzs
  cases hf : ff
  · have HX := hidE (narrow_n (n := a * b) (by rw [← HFE.out, hf]))
    subst hf
    go_wp2_with fail
    go_ret2
    exact ⟨by rw [HX.out]; rfl, HB4.out⟩
  · have hft : fits (a * b) = true := by rw [← HFE.out, hf]
    have HX := hidE (narrow_y hft)
    have HN2 := hidE (HNN.out hft)
    subst hf
    clear hft
    go_wp2_with fail
    go_ret2
    exact ⟨by rw [HX.out]; exact ret_cl HN2.out, HB4.out⟩
theorem calcS_any (op a b : Int) (w : World) (ho : isAr op = true) (ha : fits a = true) (hb : fits b = true) :
    Calls Try.prog 183 #[.int .u8 op, .int .i64 a, .int .i64 b] w fun e w' => e = .returned (clV (calc1 op a b)) ∧ Below w.heap.size w w' := by
  simp only [isAr, Bool.or_eq_true, beq_iff_eq] at ho
  rcases ho with rfl | rfl | rfl | rfl | rfl
  · exact calcS_43 a b w ha hb
  · exact calcS_45 a b w ha hb
  · exact calcS_42 a b w ha hb
  · exact calcS_47 a b w ha hb
  · exact calcS_37 a b w
end Go.Proofs.Ytpiglmkpmlogjaa
