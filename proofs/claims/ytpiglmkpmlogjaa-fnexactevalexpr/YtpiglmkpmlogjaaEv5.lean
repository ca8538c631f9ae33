/-
  OUR OWN TEXT. EvalExpr: the program's side: an operation (written by genev5.py).
-/
import Derived.Test.YtpiglmkpmlogjaaEv4
namespace Go.Proofs.Ytpiglmkpmlogjaa
open Go.RowKit
attribute [local go_sem ↓] Go.wp_at_zero Go.wp_at_succ

theorem evOp_a {op : Int} {x y : Ev} (h : x.code ≠ 0) : evOp op x y = x := by unfold evOp; rw [if_pos h]
theorem evOp_b {op : Int} {x y : Ev} (h : x.code = 0) (h2 : y.code ≠ 0) : evOp op x y = y := by unfold evOp; rw [if_neg (by simp [h]), if_pos h2]
theorem evOp_t {op : Int} {x y : Ev} (h : x.code = 0) (h2 : y.code = 0) (h3 : x.val.kind ≠ 0 ∨ y.val.kind ≠ 0) : evOp op x y = evBad 8 := by unfold evOp; rw [if_neg (by simp [h]), if_neg (by simp [h2]), if_pos h3]
theorem evOp_c {op : Int} {x y : Ev} (h : x.code = 0) (h2 : y.code = 0) (h3 : x.val.kind = 0) (h4 : y.val.kind = 0) (h5 : (calc1 op x.val.num y.val.num).2 ≠ 0) : evOp op x y = evBad (calc1 op x.val.num y.val.num).2 := by
  unfold evOp
  rw [if_neg (by simp [h]), if_neg (by simp [h2]), if_neg (by simp [h3, h4]), if_pos h5]
theorem evOp_n {op : Int} {x y : Ev} (h : x.code = 0) (h2 : y.code = 0) (h3 : x.val.kind = 0) (h4 : y.val.kind = 0) (h5 : (calc1 op x.val.num y.val.num).2 = 0) : evOp op x y = ⟨0, ⟨0, (calc1 op x.val.num y.val.num).1, ByteArray.empty⟩⟩ := by
  unfold evOp
  rw [if_neg (by simp [h]), if_neg (by simp [h2]), if_neg (by simp [h3, h4]), if_neg (by simp [h5])]
theorem evV_num (n : Int) : evV ⟨0, ⟨0, n, ByteArray.empty⟩⟩ = .agg #[.int .i64 0, .int .i64 0, .int .i64 n, .string ⟨#[]⟩] := rfl
def exV (e : Ex) : Value := .agg #[.int .i64 e.kind, .int .u8 e.op, .string e.var, .int .i64 e.val.kind, .int .i64 e.val.num, .string e.val.sym, .int .i64 e.a, .int .i64 e.b]
theorem arith_43 (w : World) : Calls Try.prog 223 #[.int .u8 43] w fun e w' => e = .returned (.func (.func 238) #[] #[]) ∧ w' = w := by
  go_enter Try.func223, Try.ntmps223
  go_wp2
  go_ret
  exact ⟨rfl, rfl⟩
theorem arith_45 (w : World) : Calls Try.prog 223 #[.int .u8 45] w fun e w' => e = .returned (.func (.func 239) #[] #[]) ∧ w' = w := by
  go_enter Try.func223, Try.ntmps223
  go_wp2
  go_ret
  exact ⟨rfl, rfl⟩
theorem arith_42 (w : World) : Calls Try.prog 223 #[.int .u8 42] w fun e w' => e = .returned (.func (.func 240) #[] #[]) ∧ w' = w := by
  go_enter Try.func223, Try.ntmps223
  go_wp2
  go_ret
  exact ⟨rfl, rfl⟩
theorem arith_47 (w : World) : Calls Try.prog 223 #[.int .u8 47] w fun e w' => e = .returned (.func (.func 241) #[] #[]) ∧ w' = w := by
  go_enter Try.func223, Try.ntmps223
  go_wp2
  go_ret
  exact ⟨rfl, rfl⟩
theorem arith_37 (w : World) : Calls Try.prog 223 #[.int .u8 37] w fun e w' => e = .returned (.func (.func 242) #[] #[]) ∧ w' = w := by
  go_enter Try.func223, Try.ntmps223
  go_wp2
  go_ret
  exact ⟨rfl, rfl⟩

theorem Bx4.bel {w w' : World} {b : Nat} {t : TypeId} {x0 x1 x2 x3 : Value} (h : Bx4 w b t x0 x1 x2 x3) (hb : Below w.heap.size w w') : Bx4 w' b t x0 x1 x2 x3 := h.below hb h.facts.2.2
theorem Bx4.made4 (w : World) (o1 o2 o3 : Obj) (t : TypeId) (x0 x1 x2 x3 : Value) : Bx4 ((((w.alloc o1).alloc o2).alloc o3).alloc (.cells #[x0, x1, x2, x3] t)) (w.heap.size + 3) t x0 x1 x2 x3 := by
  have := heap_alloc_new (((w.alloc o1).alloc o2).alloc o3) (.cells #[x0, x1, x2, x3] t)
  unfold Bx4
  simpa using this
theorem B4 (w : World) (o1 o2 o3 o4 : Obj) : Below w.heap.size w ((((w.alloc o1).alloc o2).alloc o3).alloc o4) := ((((Below.refl _ _).alloc (Nat.le_refl _) _).alloc (by simp) _).alloc (by simp; omega) _).alloc (by simp; omega) _
set_option maxHeartbeats 1600000 in
theorem operate_1 (e : Ex) (x y : Ev) (w : World) (hne : x.code ≠ 0 ∨ (x.code = 0 ∧ y.code ≠ 0) ∨ (x.code = 0 ∧ y.code = 0 ∧ x.val.kind ≠ 0) ∨ (x.code = 0 ∧ y.code = 0 ∧ x.val.kind = 0 ∧ y.val.kind ≠ 0)) :
    Calls Try.prog 187 #[exV e, evV x, evV y] w fun r w' => r = .returned (evV (evOp e.op x y)) ∧ Below w.heap.size w w' := by
  unfold exV
  rcases hne with h1 | ⟨h1, h2⟩ | ⟨h1, h2, h3⟩ | ⟨h1, h2, h3, h4⟩
  · have HN := hidE (evOp_a (op := e.op) (y := y) h1)
    have HB := hidE (B4 w)
    unfold evV
    go_enter Try.func187, Try.ntmps187
    go_wp2
    refine bodyPost_ret (v := evV x) (by simp [results, Try.results187, go_sem, evV]) rfl ⟨by rw [HN.out]; rfl, ?_⟩
    exact B4 w _ _ _ _
  · have HN := hidE (evOp_b (op := e.op) h1 h2)
    unfold evV
    go_enter Try.func187, Try.ntmps187
    go_wp2
    refine bodyPost_ret (v := evV y) (by simp [results, Try.results187, go_sem, evV]) rfl ⟨by rw [HN.out]; rfl, ?_⟩
    exact B4 w _ _ _ _
  · have HN := hidE (evOp_t (op := e.op) h1 h2 (.inl h3))
    unfold evV
    go_enter Try.func187, Try.ntmps187
    go_wp2
    refine bodyPost_ret (v := evV (evBad 8)) (by simp [results, Try.results187, go_sem, evV_bad]) rfl ⟨by rw [HN.out]; rfl, ?_⟩
    exact B4 w _ _ _ _
  · have HN := hidE (evOp_t (op := e.op) h1 h2 (.inr h4))
    unfold evV
    go_enter Try.func187, Try.ntmps187
    go_wp2
    refine bodyPost_ret (v := evV (evBad 8)) (by simp [results, Try.results187, go_sem, evV_bad]) rfl ⟨by rw [HN.out]; rfl, ?_⟩
    exact B4 w _ _ _ _

set_option maxHeartbeats 1600000 in
theorem operate_43 (e : Ex) (x y : Ev) (w : World) (ho : e.op = 43) (h1 : x.code = 0) (h2 : y.code = 0) (h3 : x.val.kind = 0) (h4 : y.val.kind = 0) (hx : fits x.val.num = true) (hy : fits y.val.num = true) :
    Calls Try.prog 187 #[exV e, evV x, evV y] w fun r w' => r = .returned (evV (evOp e.op x y)) ∧ Below w.heap.size w w' := by
  have HA := hidE (fun w' => sum_any x.val.num y.val.num w' hx hy)
  have HC := hidE (evOp_c (op := 43) h1 h2 h3 h4)
  have HN := hidE (evOp_n (op := 43) h1 h2 h3 h4)
  unfold exV
  rw [ho]
  generalize evOp 43 x y = E at HC HN ⊢
  generalize hK : (calc1 43 x.val.num y.val.num).2 = K at HA HC HN
  generalize (calc1 43 x.val.num y.val.num).1 = N at HA HN
  clear hK
  unfold evV
  rw [h1, h2, h3, h4]
  generalize x.val.num = xn at HA
  generalize y.val.num = yn at HA
  have HB := hidE (B4 w)
  have HX := hidE (fun o1 o2 o3 => Bx4.made4 w o1 o2 o3 122 (.int .i64 0) (.int .i64 0) (.int .i64 0) (.string ⟨#[]⟩))
  clear h1 h2 h3 h4 hx hy
  go_enter Try.func187, Try.ntmps187
  go_wp2_with fail
  go_region_held3 (fun w' => w'.cell? ⟨w.heap.size, 1, none⟩ = some (.int .u8 43) ∧ w'.cell? ⟨w.heap.size + 1, 2, none⟩ = some (.int .i64 xn) ∧ w'.cell? ⟨w.heap.size + 2, 2, none⟩ = some (.int .i64 yn))
    (first | (go_split_ands; (refine ⟨?_, ?_, ?_⟩ <;> first | with_reducible assumption | with_reducible exact cell_below hb1 (by assumption) | (simp [go_sem]; done)); done) | fail)
    (first | (go_at_call 223; refine (arith_43 _).mono ?_; rintro r w0 ⟨rfl, rfl⟩) | (go_at_call 238; with_reducible refine (HA.out _).mono ?_; rintro r w1 ⟨⟨n, rfl, hn⟩, hb1⟩; have HNN := hidE hn; have hBX := (Bx4.bel (HX.out _ _ _) (Below.refl _ _).drew).bel hb1; have hBW := (HB.out _ _ _ _).drew.trans (hb1.mono (HB.out _ _ _ _).drew.size); have HBX := hidE hBX; have HBW := hidE hBW; clear hn hBX hBW) | fail)
  obtain ⟨⟨f0, f1, f2, f3⟩, ⟨z0, z1, z2, z3⟩, hlt⟩ := HBX.out.facts
  clear HX HB HA HBX hb1
  by_cases hK0 : K = 0
  · have HE := hidE (HN.out hK0)
    have HM := hidE (HNN.out hK0)
    subst hK0
    clear HN HC HNN
    go_wp2_with fail
    refine bodyPost_ret (v := evV ⟨0, ⟨0, n, ByteArray.empty⟩⟩) (by simp [results, Try.results187, go_sem, f0, f1, f2, f3, evV_num]) rfl ⟨by rw [HE.out, HM.out]; rfl, ?_⟩
    exact (((HBW.out.setCell (by simp; omega) _).setCell (by simp; omega) _).setCell (by simp; omega) _).setCell (by simp; omega) _
  · have HE := hidE (HC.out hK0)
    clear HN HC HNN
    go_wp2_with fail
    refine bodyPost_ret (v := evV (evBad K)) (by simp [results, Try.results187, go_sem, f0, f1, f2, f3, evV_bad]) rfl ⟨by rw [HE.out]; rfl, ?_⟩
    exact (((HBW.out.setCell (by simp; omega) _).setCell (by simp; omega) _).setCell (by simp; omega) _).setCell (by simp; omega) _

set_option maxHeartbeats 1600000 in
theorem operate_45 (e : Ex) (x y : Ev) (w : World) (ho : e.op = 45) (h1 : x.code = 0) (h2 : y.code = 0) (h3 : x.val.kind = 0) (h4 : y.val.kind = 0) (hx : fits x.val.num = true) (hy : fits y.val.num = true) :
    Calls Try.prog 187 #[exV e, evV x, evV y] w fun r w' => r = .returned (evV (evOp e.op x y)) ∧ Below w.heap.size w w' := by
  have HA := hidE (fun w' => diff_any x.val.num y.val.num w' hx hy)
  have HC := hidE (evOp_c (op := 45) h1 h2 h3 h4)
  have HN := hidE (evOp_n (op := 45) h1 h2 h3 h4)
  unfold exV
  rw [ho]
  generalize evOp 45 x y = E at HC HN ⊢
  generalize hK : (calc1 45 x.val.num y.val.num).2 = K at HA HC HN
  generalize (calc1 45 x.val.num y.val.num).1 = N at HA HN
  clear hK
  unfold evV
  rw [h1, h2, h3, h4]
  generalize x.val.num = xn at HA
  generalize y.val.num = yn at HA
  have HB := hidE (B4 w)
  have HX := hidE (fun o1 o2 o3 => Bx4.made4 w o1 o2 o3 122 (.int .i64 0) (.int .i64 0) (.int .i64 0) (.string ⟨#[]⟩))
  clear h1 h2 h3 h4 hx hy
  go_enter Try.func187, Try.ntmps187
  go_wp2_with fail
  go_region_held3 (fun w' => w'.cell? ⟨w.heap.size, 1, none⟩ = some (.int .u8 45) ∧ w'.cell? ⟨w.heap.size + 1, 2, none⟩ = some (.int .i64 xn) ∧ w'.cell? ⟨w.heap.size + 2, 2, none⟩ = some (.int .i64 yn))
    (first | (go_split_ands; (refine ⟨?_, ?_, ?_⟩ <;> first | with_reducible assumption | with_reducible exact cell_below hb1 (by assumption) | (simp [go_sem]; done)); done) | fail)
    (first | (go_at_call 223; refine (arith_45 _).mono ?_; rintro r w0 ⟨rfl, rfl⟩) | (go_at_call 239; with_reducible refine (HA.out _).mono ?_; rintro r w1 ⟨⟨n, rfl, hn⟩, hb1⟩; have HNN := hidE hn; have hBX := (Bx4.bel (HX.out _ _ _) (Below.refl _ _).drew).bel hb1; have hBW := (HB.out _ _ _ _).drew.trans (hb1.mono (HB.out _ _ _ _).drew.size); have HBX := hidE hBX; have HBW := hidE hBW; clear hn hBX hBW) | fail)
  obtain ⟨⟨f0, f1, f2, f3⟩, ⟨z0, z1, z2, z3⟩, hlt⟩ := HBX.out.facts
  clear HX HB HA HBX hb1
  by_cases hK0 : K = 0
  · have HE := hidE (HN.out hK0)
    have HM := hidE (HNN.out hK0)
    subst hK0
    clear HN HC HNN
    go_wp2_with fail
    refine bodyPost_ret (v := evV ⟨0, ⟨0, n, ByteArray.empty⟩⟩) (by simp [results, Try.results187, go_sem, f0, f1, f2, f3, evV_num]) rfl ⟨by rw [HE.out, HM.out]; rfl, ?_⟩
    exact (((HBW.out.setCell (by simp; omega) _).setCell (by simp; omega) _).setCell (by simp; omega) _).setCell (by simp; omega) _
  · have HE := hidE (HC.out hK0)
    clear HN HC HNN
    go_wp2_with fail
    refine bodyPost_ret (v := evV (evBad K)) (by simp [results, Try.results187, go_sem, f0, f1, f2, f3, evV_bad]) rfl ⟨by rw [HE.out]; rfl, ?_⟩
    exact (((HBW.out.setCell (by simp; omega) _).setCell (by simp; omega) _).setCell (by simp; omega) _).setCell (by simp; omega) _

set_option maxHeartbeats 1600000 in
theorem operate_42 (e : Ex) (x y : Ev) (w : World) (ho : e.op = 42) (h1 : x.code = 0) (h2 : y.code = 0) (h3 : x.val.kind = 0) (h4 : y.val.kind = 0) (hx : fits x.val.num = true) (hy : fits y.val.num = true) :
    Calls Try.prog 187 #[exV e, evV x, evV y] w fun r w' => r = .returned (evV (evOp e.op x y)) ∧ Below w.heap.size w w' := by
  have HA := hidE (fun w' => prod_any x.val.num y.val.num w' hx hy)
  have HC := hidE (evOp_c (op := 42) h1 h2 h3 h4)
  have HN := hidE (evOp_n (op := 42) h1 h2 h3 h4)
  unfold exV
  rw [ho]
  generalize evOp 42 x y = E at HC HN ⊢
  generalize hK : (calc1 42 x.val.num y.val.num).2 = K at HA HC HN
  generalize (calc1 42 x.val.num y.val.num).1 = N at HA HN
  clear hK
  unfold evV
  rw [h1, h2, h3, h4]
  generalize x.val.num = xn at HA
  generalize y.val.num = yn at HA
  have HB := hidE (B4 w)
  have HX := hidE (fun o1 o2 o3 => Bx4.made4 w o1 o2 o3 122 (.int .i64 0) (.int .i64 0) (.int .i64 0) (.string ⟨#[]⟩))
  clear h1 h2 h3 h4 hx hy
  go_enter Try.func187, Try.ntmps187
  go_wp2_with fail
  go_region_held3 (fun w' => w'.cell? ⟨w.heap.size, 1, none⟩ = some (.int .u8 42) ∧ w'.cell? ⟨w.heap.size + 1, 2, none⟩ = some (.int .i64 xn) ∧ w'.cell? ⟨w.heap.size + 2, 2, none⟩ = some (.int .i64 yn))
    (first | (go_split_ands; (refine ⟨?_, ?_, ?_⟩ <;> first | with_reducible assumption | with_reducible exact cell_below hb1 (by assumption) | (simp [go_sem]; done)); done) | fail)
    (first | (go_at_call 223; refine (arith_42 _).mono ?_; rintro r w0 ⟨rfl, rfl⟩) | (go_at_call 240; with_reducible refine (HA.out _).mono ?_; rintro r w1 ⟨⟨n, rfl, hn⟩, hb1⟩; have HNN := hidE hn; have hBX := (Bx4.bel (HX.out _ _ _) (Below.refl _ _).drew).bel hb1; have hBW := (HB.out _ _ _ _).drew.trans (hb1.mono (HB.out _ _ _ _).drew.size); have HBX := hidE hBX; have HBW := hidE hBW; clear hn hBX hBW) | fail)
  obtain ⟨⟨f0, f1, f2, f3⟩, ⟨z0, z1, z2, z3⟩, hlt⟩ := HBX.out.facts
  clear HX HB HA HBX hb1
  by_cases hK0 : K = 0
  · have HE := hidE (HN.out hK0)
    have HM := hidE (HNN.out hK0)
    subst hK0
    clear HN HC HNN
    go_wp2_with fail
    refine bodyPost_ret (v := evV ⟨0, ⟨0, n, ByteArray.empty⟩⟩) (by simp [results, Try.results187, go_sem, f0, f1, f2, f3, evV_num]) rfl ⟨by rw [HE.out, HM.out]; rfl, ?_⟩
    exact (((HBW.out.setCell (by simp; omega) _).setCell (by simp; omega) _).setCell (by simp; omega) _).setCell (by simp; omega) _
  · have HE := hidE (HC.out hK0)
    clear HN HC HNN
    go_wp2_with fail
    refine bodyPost_ret (v := evV (evBad K)) (by simp [results, Try.results187, go_sem, f0, f1, f2, f3, evV_bad]) rfl ⟨by rw [HE.out]; rfl, ?_⟩
    exact (((HBW.out.setCell (by simp; omega) _).setCell (by simp; omega) _).setCell (by simp; omega) _).setCell (by simp; omega) _

set_option maxHeartbeats 1600000 in
theorem operate_47 (e : Ex) (x y : Ev) (w : World) (ho : e.op = 47) (h1 : x.code = 0) (h2 : y.code = 0) (h3 : x.val.kind = 0) (h4 : y.val.kind = 0) (hx : fits x.val.num = true) (hy : fits y.val.num = true) :
    Calls Try.prog 187 #[exV e, evV x, evV y] w fun r w' => r = .returned (evV (evOp e.op x y)) ∧ Below w.heap.size w w' := by
  have HA := hidE (fun w' => quo_any x.val.num y.val.num w' hx hy)
  have HC := hidE (evOp_c (op := 47) h1 h2 h3 h4)
  have HN := hidE (evOp_n (op := 47) h1 h2 h3 h4)
  unfold exV
  rw [ho]
  generalize evOp 47 x y = E at HC HN ⊢
  generalize hK : (calc1 47 x.val.num y.val.num).2 = K at HA HC HN
  generalize (calc1 47 x.val.num y.val.num).1 = N at HA HN
  clear hK
  unfold evV
  rw [h1, h2, h3, h4]
  generalize x.val.num = xn at HA
  generalize y.val.num = yn at HA
  have HB := hidE (B4 w)
  have HX := hidE (fun o1 o2 o3 => Bx4.made4 w o1 o2 o3 122 (.int .i64 0) (.int .i64 0) (.int .i64 0) (.string ⟨#[]⟩))
  clear h1 h2 h3 h4 hx hy
  go_enter Try.func187, Try.ntmps187
  go_wp2_with fail
  go_region_held3 (fun w' => w'.cell? ⟨w.heap.size, 1, none⟩ = some (.int .u8 47) ∧ w'.cell? ⟨w.heap.size + 1, 2, none⟩ = some (.int .i64 xn) ∧ w'.cell? ⟨w.heap.size + 2, 2, none⟩ = some (.int .i64 yn))
    (first | (go_split_ands; (refine ⟨?_, ?_, ?_⟩ <;> first | with_reducible assumption | with_reducible exact cell_below hb1 (by assumption) | (simp [go_sem]; done)); done) | fail)
    (first | (go_at_call 223; refine (arith_47 _).mono ?_; rintro r w0 ⟨rfl, rfl⟩) | (go_at_call 241; with_reducible refine (HA.out _).mono ?_; rintro r w1 ⟨⟨n, rfl, hn⟩, hb1⟩; have HNN := hidE hn; have hBX := (Bx4.bel (HX.out _ _ _) (Below.refl _ _).drew).bel hb1; have hBW := (HB.out _ _ _ _).drew.trans (hb1.mono (HB.out _ _ _ _).drew.size); have HBX := hidE hBX; have HBW := hidE hBW; clear hn hBX hBW) | fail)
  obtain ⟨⟨f0, f1, f2, f3⟩, ⟨z0, z1, z2, z3⟩, hlt⟩ := HBX.out.facts
  clear HX HB HA HBX hb1
  by_cases hK0 : K = 0
  · have HE := hidE (HN.out hK0)
    have HM := hidE (HNN.out hK0)
    subst hK0
    clear HN HC HNN
    go_wp2_with fail
    refine bodyPost_ret (v := evV ⟨0, ⟨0, n, ByteArray.empty⟩⟩) (by simp [results, Try.results187, go_sem, f0, f1, f2, f3, evV_num]) rfl ⟨by rw [HE.out, HM.out]; rfl, ?_⟩
    exact (((HBW.out.setCell (by simp; omega) _).setCell (by simp; omega) _).setCell (by simp; omega) _).setCell (by simp; omega) _
  · have HE := hidE (HC.out hK0)
    clear HN HC HNN
    go_wp2_with fail
    refine bodyPost_ret (v := evV (evBad K)) (by simp [results, Try.results187, go_sem, f0, f1, f2, f3, evV_bad]) rfl ⟨by rw [HE.out]; rfl, ?_⟩
    exact (((HBW.out.setCell (by simp; omega) _).setCell (by simp; omega) _).setCell (by simp; omega) _).setCell (by simp; omega) _

set_option maxHeartbeats 1600000 in
theorem operate_37 (e : Ex) (x y : Ev) (w : World) (ho : e.op = 37) (h1 : x.code = 0) (h2 : y.code = 0) (h3 : x.val.kind = 0) (h4 : y.val.kind = 0) (hx : fits x.val.num = true) (hy : fits y.val.num = true) :
    Calls Try.prog 187 #[exV e, evV x, evV y] w fun r w' => r = .returned (evV (evOp e.op x y)) ∧ Below w.heap.size w w' := by
  have HA := hidE (fun w' => rest_any x.val.num y.val.num w' hx hy)
  have HC := hidE (evOp_c (op := 37) h1 h2 h3 h4)
  have HN := hidE (evOp_n (op := 37) h1 h2 h3 h4)
  unfold exV
  rw [ho]
  generalize evOp 37 x y = E at HC HN ⊢
  generalize hK : (calc1 37 x.val.num y.val.num).2 = K at HA HC HN
  generalize (calc1 37 x.val.num y.val.num).1 = N at HA HN
  clear hK
  unfold evV
  rw [h1, h2, h3, h4]
  generalize x.val.num = xn at HA
  generalize y.val.num = yn at HA
  have HB := hidE (B4 w)
  have HX := hidE (fun o1 o2 o3 => Bx4.made4 w o1 o2 o3 122 (.int .i64 0) (.int .i64 0) (.int .i64 0) (.string ⟨#[]⟩))
  clear h1 h2 h3 h4 hx hy
  go_enter Try.func187, Try.ntmps187
  go_wp2_with fail
  go_region_held3 (fun w' => w'.cell? ⟨w.heap.size, 1, none⟩ = some (.int .u8 37) ∧ w'.cell? ⟨w.heap.size + 1, 2, none⟩ = some (.int .i64 xn) ∧ w'.cell? ⟨w.heap.size + 2, 2, none⟩ = some (.int .i64 yn))
    (first | (go_split_ands; (refine ⟨?_, ?_, ?_⟩ <;> first | with_reducible assumption | with_reducible exact cell_below hb1 (by assumption) | (simp [go_sem]; done)); done) | fail)
    (first | (go_at_call 223; refine (arith_37 _).mono ?_; rintro r w0 ⟨rfl, rfl⟩) | (go_at_call 242; with_reducible refine (HA.out _).mono ?_; rintro r w1 ⟨⟨n, rfl, hn⟩, hb1⟩; have HNN := hidE hn; have hBX := (Bx4.bel (HX.out _ _ _) (Below.refl _ _).drew).bel hb1; have hBW := (HB.out _ _ _ _).drew.trans (hb1.mono (HB.out _ _ _ _).drew.size); have HBX := hidE hBX; have HBW := hidE hBW; clear hn hBX hBW) | fail)
  obtain ⟨⟨f0, f1, f2, f3⟩, ⟨z0, z1, z2, z3⟩, hlt⟩ := HBX.out.facts
  clear HX HB HA HBX hb1
  by_cases hK0 : K = 0
  · have HE := hidE (HN.out hK0)
    have HM := hidE (HNN.out hK0)
    subst hK0
    clear HN HC HNN
    go_wp2_with fail
    refine bodyPost_ret (v := evV ⟨0, ⟨0, n, ByteArray.empty⟩⟩) (by simp [results, Try.results187, go_sem, f0, f1, f2, f3, evV_num]) rfl ⟨by rw [HE.out, HM.out]; rfl, ?_⟩
    exact (((HBW.out.setCell (by simp; omega) _).setCell (by simp; omega) _).setCell (by simp; omega) _).setCell (by simp; omega) _
  · have HE := hidE (HC.out hK0)
    clear HN HC HNN
    go_wp2_with fail
    refine bodyPost_ret (v := evV (evBad K)) (by simp [results, Try.results187, go_sem, f0, f1, f2, f3, evV_bad]) rfl ⟨by rw [HE.out]; rfl, ?_⟩
    exact (((HBW.out.setCell (by simp; omega) _).setCell (by simp; omega) _).setCell (by simp; omega) _).setCell (by simp; omega) _
end Go.Proofs.Ytpiglmkpmlogjaa
