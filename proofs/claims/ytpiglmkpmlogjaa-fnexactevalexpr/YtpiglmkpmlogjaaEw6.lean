/-
  OUR OWN TEXT. EvalExpr: the model's side: an operation; a variable's value.
-/
import Derived.Test.YtpiglmkpmlogjaaEw5
namespace Go.Proofs.Ytpiglmkpmlogjaa
open Go.RowKit
attribute [local go_sem ↓] Go.wp_at_zero Go.wp_at_succ

theorem l1Num_any (n : Int) (w : World) : Calls Try.prog 184 #[.int .i64 n] w fun e w' => e = .returned (.agg #[.int .i64 0, .int .i64 n, .string ⟨#[]⟩]) ∧ Below w.heap.size w w' := by
  go_enter Try.func184, Try.ntmps184
  go_wp2
  exact bodyPost_ret (v := .agg #[.int .i64 0, .int .i64 n, .string ⟨#[]⟩]) (by simp [results, Try.results184, go_sem]) rfl ⟨rfl, (Below.refl _ _).alloc (Nat.le_refl _) _⟩
theorem B3e (w : World) (o1 o2 o3 : Obj) : Below w.heap.size w (((w.alloc o1).alloc o2).alloc o3) := (((Below.refl _ _).alloc (Nat.le_refl _) _).alloc (by simp) _).alloc (by simp; omega) _
theorem Bx4.made3 (w : World) (o1 o2 : Obj) (t : TypeId) (x0 x1 x2 x3 : Value) : Bx4 (((w.alloc o1).alloc o2).alloc (.cells #[x0, x1, x2, x3] t)) (w.heap.size + 2) t x0 x1 x2 x3 := by
  have := heap_alloc_new ((w.alloc o1).alloc o2) (.cells #[x0, x1, x2, x3] t)
  unfold Bx4
  simpa using this

set_option maxHeartbeats 1600000 in
theorem l6Op_1 (op : Int) (x y : Ev) (w : World) (hne : x.code ≠ 0 ∨ (x.code = 0 ∧ y.code ≠ 0) ∨ (x.code = 0 ∧ y.code = 0 ∧ x.val.kind ≠ 0) ∨ (x.code = 0 ∧ y.code = 0 ∧ x.val.kind = 0 ∧ y.val.kind ≠ 0)) :
    Calls Try.prog 138 #[.int .u8 op, evV x, evV y] w fun r w' => r = .returned (evV (evOp op x y)) ∧ Below w.heap.size w w' := by
  rcases hne with h1 | ⟨h1, h2⟩ | ⟨h1, h2, h3⟩ | ⟨h1, h2, h3, h4⟩
  · have HN := hidE (evOp_a (op := op) (y := y) h1)
    unfold evV
    go_enter Try.func138, Try.ntmps138
    go_wp2
    refine bodyPost_ret (v := evV x) (by simp [results, Try.results138, go_sem, evV]) rfl ⟨by rw [HN.out]; rfl, ?_⟩
    exact B3e w _ _ _
  · have HN := hidE (evOp_b (op := op) h1 h2)
    unfold evV
    go_enter Try.func138, Try.ntmps138
    go_wp2
    refine bodyPost_ret (v := evV y) (by simp [results, Try.results138, go_sem, evV]) rfl ⟨by rw [HN.out]; rfl, ?_⟩
    exact B3e w _ _ _
  · have HN := hidE (evOp_t (op := op) h1 h2 (.inl h3))
    unfold evV
    go_enter Try.func138, Try.ntmps138
    go_wp2
    refine bodyPost_ret (v := evV (evBad 8)) (by simp [results, Try.results138, go_sem, evV_bad]) rfl ⟨by rw [HN.out]; rfl, ?_⟩
    exact B3e w _ _ _
  · have HN := hidE (evOp_t (op := op) h1 h2 (.inr h4))
    unfold evV
    go_enter Try.func138, Try.ntmps138
    go_wp2
    refine bodyPost_ret (v := evV (evBad 8)) (by simp [results, Try.results138, go_sem, evV_bad]) rfl ⟨by rw [HN.out]; rfl, ?_⟩
    exact B3e w _ _ _

set_option maxHeartbeats 1600000 in
theorem l6Op_2 (op : Int) (x y : Ev) (w : World) (ho : isAr op = true) (h1 : x.code = 0) (h2 : y.code = 0) (h3 : x.val.kind = 0) (h4 : y.val.kind = 0) (hx : fits x.val.num = true) (hy : fits y.val.num = true) :
    Calls Try.prog 138 #[.int .u8 op, evV x, evV y] w fun r w' => r = .returned (evV (evOp op x y)) ∧ Below w.heap.size w w' := by
  have HA := hidE (fun w' => calcS_any op x.val.num y.val.num w' ho hx hy)
  have HC := hidE (evOp_c (op := op) h1 h2 h3 h4)
  have HN := hidE (evOp_n (op := op) h1 h2 h3 h4)
  unfold clV at HA
  generalize evOp op x y = E at HC HN ⊢
  generalize (calc1 op x.val.num y.val.num).2 = K at HA HC HN
  generalize (calc1 op x.val.num y.val.num).1 = N at HA HN
  unfold evV
  rw [h1, h2, h3, h4]
  generalize x.val.num = xn at HA
  generalize y.val.num = yn at HA
  have HB := hidE (B3e w)
  have HX := hidE (fun o1 o2 => Bx4.made3 w o1 o2 122 (.int .i64 0) (.int .i64 0) (.int .i64 0) (.string ⟨#[]⟩))
  clear h1 h2 h3 h4 hx hy ho
  by_cases hK0 : K = 0
  · have HE := hidE (HN.out hK0)
    subst hK0
    clear HN HC
    go_enter Try.func138, Try.ntmps138
    go_wp2_with (first | (go_at_call 183; with_reducible refine (HA.out _).mono ?_; rintro r w1 ⟨rfl, hb1⟩; have hBX := (HX.out _ _).bel hb1; have hBW := (HB.out _ _ _).trans (hb1.mono (HB.out _ _ _).size); have HBX := hidE hBX; have HBW := hidE hBW; clear hb1 hBX hBW) | (go_at_call 184; refine (l1Num_any _ _).mono ?_; rintro r w2 ⟨rfl, hb2⟩; have HB2 := hidE (HBW.out.trans (hb2.mono HBW.out.size)); obtain ⟨⟨f0, f1, f2, f3⟩, ⟨z0, z1, z2, z3⟩, hlt⟩ := (HBX.out.bel hb2).facts; clear hb2) | fail)
    refine bodyPost_ret (v := evV ⟨0, ⟨0, N, ByteArray.empty⟩⟩) (by simp [results, Try.results138, go_sem, f0, f1, f2, f3, evV_num]) rfl ⟨by rw [HE.out]; rfl, ?_⟩
    exact (((HB2.out.setCell (by simp; omega) _).setCell (by simp; omega) _).setCell (by simp; omega) _).setCell (by simp; omega) _
  · have HE := hidE (HC.out hK0)
    clear HN HC
    go_enter Try.func138, Try.ntmps138
    go_wp2_with (first | (go_at_call 183; with_reducible refine (HA.out _).mono ?_; rintro r w1 ⟨rfl, hb1⟩; have HBW := hidE ((HB.out _ _ _).trans (hb1.mono (HB.out _ _ _).size)); obtain ⟨⟨f0, f1, f2, f3⟩, ⟨z0, z1, z2, z3⟩, hlt⟩ := ((HX.out _ _).bel hb1).facts; clear hb1) | fail)
    refine bodyPost_ret (v := evV (evBad K)) (by simp [results, Try.results138, go_sem, f0, f1, f2, f3, evV_bad]) rfl ⟨by rw [HE.out]; rfl, ?_⟩
    exact (((HBW.out.setCell (by simp; omega) _).setCell (by simp; omega) _).setCell (by simp; omega) _).setCell (by simp; omega) _
theorem l6Op_any (op : Int) (x y : Ev) (w : World) (ho : isAr op = true) (hx : fits x.val.num = true) (hy : fits y.val.num = true) :
    Calls Try.prog 138 #[.int .u8 op, evV x, evV y] w fun r w' => r = .returned (evV (evOp op x y)) ∧ Below w.heap.size w w' := by
  by_cases h1 : x.code = 0
  · by_cases h2 : y.code = 0
    · by_cases h3 : x.val.kind = 0
      · by_cases h4 : y.val.kind = 0
        · exact l6Op_2 op x y w ho h1 h2 h3 h4 hx hy
        · exact l6Op_1 op x y w (.inr (.inr (.inr ⟨h1, h2, h3, h4⟩)))
      · exact l6Op_1 op x y w (.inr (.inr (.inl ⟨h1, h2, h3⟩)))
    · exact l6Op_1 op x y w (.inr (.inl ⟨h1, h2⟩))
  · exact l6Op_1 op x y w (.inl h1)

/-- What the model's look at the binds tells: the value, and whether there is one. -/
def bdV (o : Option V) : Value := match o with
  | some v => .tuple #[.agg #[.int .i64 v.kind, .int .i64 v.num, .string v.sym], .bool true]
  | none => .tuple #[.agg #[.int .i64 0, .int .i64 0, .string ⟨#[]⟩], .bool false]
/-- A box of three cells, none frozen. -/
def Bx3 (w : World) (b : Nat) (t : TypeId) (x0 x1 x2 : Value) : Prop := w.heap[b]? = some (.cells #[x0, x1, x2] t (0, 0))
theorem Bx3.facts {w : World} {b : Nat} {t : TypeId} {x0 x1 x2 : Value} (h : Bx3 w b t x0 x1 x2) : (w.cell? ⟨b, 0, none⟩ = some x0 ∧ w.cell? ⟨b, 1, none⟩ = some x1 ∧ w.cell? ⟨b, 2, none⟩ = some x2) ∧
    (w.frozen? ⟨b, 0, none⟩ = false ∧ w.frozen? ⟨b, 1, none⟩ = false ∧ w.frozen? ⟨b, 2, none⟩ = false) ∧ b < w.heap.size := by
  unfold Bx3 at h
  refine ⟨⟨?_, ?_, ?_⟩, ⟨?_, ?_, ?_⟩, lt_of_block' h⟩ <;> simp [World.cell?, World.frozen?, h]
set_option maxHeartbeats 800000 in
theorem l4Bind_any (s : ByteArray) (a : Option Addr) (c : Nat) (bs : List Bd) {q : Option Nat} (w : World) (hv : BdsAt q w a bs) (hl : bs.length ≤ 1048576) :
    Calls Try.prog 137 #[.slice a bs.length c, .string s] w fun e w' => e = .returned (bdV (lookB bs s)) ∧ Below w.heap.size w w' := by
  have B0 : ∀ o, Below w.heap.size w (w.alloc o) := fun o => (Below.refl _ _).alloc (Nat.le_refl _) _
  go_enter Try.func137, Try.ntmps137
  go_wp2
  go_loopw [10] (fun i wr => ∃ (k : Nat), k ≤ bs.length ∧ i = .int .i64 k ∧ lookB bs s = lookB (bs.drop k) s ∧ Bx3 wr w.heap.size 120 (.int .i64 0) (.int .i64 0) (.string ⟨#[]⟩) ∧ Below w.heap.size w wr) (fun i _ => bs.length - (intOf i).toNat)
  case atStart => exact ⟨0, by omega, rfl, rfl, heap_alloc_new _ _, B0 _⟩
  case round =>
    obtain ⟨k, hk, rfl, hG, hbx, hb⟩ := hrel
    have HG := hidE hG
    have HBX := hidE hbx
    clear hG hbx
    obtain ⟨⟨f0, f1, f2⟩, ⟨z0, z1, z2⟩, hlt⟩ := HBX.out.facts
    by_cases hkl : k < bs.length
    · obtain ⟨x, hxk⟩ : ∃ x, bs[k]? = some x := ⟨bs[k], by simp [hkl]⟩
      obtain ⟨b, o, rfl, hq, c0, c1, c2, c3⟩ := (hv.below hb).get hxk
      have HD : Hid (bs.drop k = x :: bs.drop (k + 1)) := drop_cons hxk
      have B1 : ∀ o, Below w.heap.size w (wr.alloc o) := fun o => hb.alloc hb.size _
      cases e1 : (x.var.toList == s.toList)
      · have HN : Hid (lookB bs s = lookB (bs.drop (k + 1)) s) := show lookB bs s = _ from by
          rw [bytes_beq] at e1
          have : ¬ x.var = s := fun h => by subst h; simp at e1
          rw [HG.out, HD.out, lookB_cons, if_neg this]
        have HR1 : Hid (∀ o, Bx3 (wr.alloc o) w.heap.size 120 (.int .i64 0) (.int .i64 0) (.string ⟨#[]⟩)) := show ∀ o, Bx3 (wr.alloc o) w.heap.size 120 (.int .i64 0) (.int .i64 0) (.string ⟨#[]⟩) from fun o => (((Below.refl _ _).alloc (Nat.le_refl _) o).block _ hlt).trans HBX.out
        go_wp2
        go_roundw
        case rel => exact ⟨k + 1, by omega, by go_num, HN.out, HR1.out _, B1 _⟩
        case measure => simp [intOf]; omega
      · have HN : Hid (lookB bs s = some x.val) := show lookB bs s = _ from by
          rw [bytes_beq] at e1
          have : x.var = s := by simpa using e1
          rw [HG.out, HD.out, lookB_cons, if_pos this]
        go_wp2
        refine bodyPost_ret (v := bdV (some x.val)) (by simp [results, Try.results137, go_sem, f0, f1, f2, hlt, bdV]) rfl ⟨by rw [HN.out], ?_⟩
        exact (((hb.setCell (by simp) _).setCell (by simp) _).setCell (by simp) _).alloc (by simp; exact hb.size) _
    · have HN : Hid (lookB bs s = none) := show lookB bs s = _ from by rw [HG.out, List.drop_eq_nil_of_le (by omega)]; rfl
      go_wp2
      refine bodyPost_ret (v := bdV none) (by simp [results, Try.results137, go_sem, f0, f1, f2, bdV]) rfl ⟨by rw [HN.out], ?_⟩
      exact ((hb.setCell (by simp) _).setCell (by simp) _).setCell (by simp) _
end Go.Proofs.Ytpiglmkpmlogjaa
