/-
  OUR OWN TEXT. EvalExpr: the model's side: digits are multiplied.
-/
import Derived.Test.YtpiglmkpmlogjaaEw1
namespace Go.Proofs.Ytpiglmkpmlogjaa
open Go.RowKit
attribute [local go_sem ↓] Go.wp_at_zero Go.wp_at_succ

/-- A block of digits, known whole. -/
def DBlk (w : World) (g : Nat) (zs : List Nat) : Prop := w.heap[g]? = some (.cells (dcells zs).toArray 285 (0, 0))
theorem DBlk.cell {w : World} {g : Nat} {zs : List Nat} (h : DBlk w g zs) {j d : Nat} (hj : zs[j]? = some d) : w.cell? ⟨g, j, none⟩ = some (.int .u32 (d : Int)) := by
  unfold DBlk at h
  simp [World.cell?, h, dcells, hj]
theorem DBlk.free {w : World} {g : Nat} {zs : List Nat} (h : DBlk w g zs) (j : Nat) : w.frozen? ⟨g, j, none⟩ = false := by
  unfold DBlk at h
  simp [World.frozen?, h]
theorem DBlk.set {w : World} {g : Nat} {zs : List Nat} (h : DBlk w g zs) (j d : Nat) : DBlk (w.setCell ⟨g, j, none⟩ (.int .u32 (d : Int))) g (zs.set j d) := by
  unfold DBlk at *
  rw [heap_setCell_same h]
  simp [dcells, List.map_set]
/-- Digits that lie in memory. -/
def DsAt (w : World) (a : Option Addr) (xs : List Nat) : Prop := ∀ (i d : Nat), xs[i]? = some d → ∃ b o, a = some ⟨b, o, none⟩ ∧ w.cell? ⟨b, o + i, none⟩ = some (.int .u32 (d : Int))
theorem DsAt.below {w w' : World} {a : Option Addr} {xs : List Nat} (h : DsAt w a xs) (hb : Below w.heap.size w w') : DsAt w' a xs := fun i d hi => by
  obtain ⟨b, o, e, hc⟩ := h i d hi
  exact ⟨b, o, e, cell_below hb hc⟩
theorem DsAt.owns {w : World} {base n : Nat} {a : Option Addr} {c : Nat} {xs : List Nat} (h : w.ownsRow base 285 1 (.slice a n c) n (dcells xs)) : DsAt w a xs := by
  intro i s hs
  have k0 : (dcells xs)[i]? = some (.int .u32 (s : Int)) := by simp [dcells, hs]
  obtain ⟨g, rfl, _, h0, _⟩ := owns_cell h k0
  exact ⟨g, 0, rfl, by simpa using h0⟩
def Small (zs : List Nat) : Prop := ∀ z ∈ zs, z < 65536
theorem Small.set {zs : List Nat} (h : Small zs) {j d : Nat} (hd : d < 65536) : Small (zs.set j d) := fun z hz => by
  rcases List.mem_or_eq_of_mem_set hz with hz | rfl
  · exact h z hz
  · exact hd

theorem bk_step (i k x y U : Nat) : 65536 ^ i * (x * U) + 65536 ^ (i + k) * (x * y) = 65536 ^ i * (x * (U + 65536 ^ k * y)) := by
  rw [Nat.pow_add, Nat.mul_add x, Nat.mul_add (65536 ^ i), Nat.mul_assoc (65536 ^ i), Nat.mul_left_comm (65536 ^ k) x y]
theorem zeros8 : madeCells #[.int .u32 0] 8 = (dcells (List.replicate 8 0)).toArray := by kernel_rfl
theorem mk8 (w : World) : (Instr.makeSlice 288 (.int .i64 8) (.int .i64 8)).run Try.prog w = .ok (.slice (some ⟨w.heap.size, 0, none⟩) 8 8) (w.alloc (.cells (dcells (List.replicate 8 0)).toArray 285)) := by
  obtain ⟨i, hi, hz0, hz1, hz2⟩ := info_parts infoU
  have hr := run_make (P := Try.prog) w 288 285 i _ Try.underlying288 hi hz0 .i64 .i64 8 8 (by omega) (by omega) (by rw [hz2]; omega) (by omega)
  rw [hr, hz1]
  exact congrArg (fun c => Result.ok (Value.slice (some ⟨w.heap.size, 0, none⟩) 8 8) (w.alloc (.cells c 285))) zeros8
set_option maxRecDepth 100000 in
set_option maxHeartbeats 1600000 in
theorem digits_any (a b : Option Addr) (ca cb : Nat) (xs ys : List Nat) (w : World) (hx : DsAt w a xs) (hy : DsAt w b ys) (lx : xs.length = 4) (ly : ys.length = 4) (sx : Small xs) (sy : Small ys) :
    Calls Try.prog 221 #[.slice a 4 ca, .slice b 4 cb] w fun e w' =>
      (∃ g zs, e = .returned (.slice (some ⟨g, 0, none⟩) 8 8) ∧ DBlk w' g zs ∧ zs.length = 8 ∧ Small zs ∧ dval zs = dval xs * dval ys) ∧ Below w.heap.size w w' := by
  have HLX := hidE lx
  have HLY := hidE ly
  clear lx ly
  have hmk := mk8
  generalize hz8 : (dcells (List.replicate 8 0)).toArray = Z8 at hmk
  have HZ8 := hidE hz8
  clear hz8
  go_enter Try.func221, Try.ntmps221
  go_wp2
  clear hmk
  go_loopw [20] (fun iv wr => ∃ (i : Nat) (zs : List Nat), i ≤ 4 ∧ iv = .int .i64 i ∧ DBlk wr w.heap.size zs ∧ zs.length = 8 ∧ Small zs ∧ dval zs = dval (xs.take i) * dval ys ∧ (∀ j, i + 4 ≤ j → j < 8 → zs[j]? = some 0) ∧ Below w.heap.size w wr) (fun iv _ => 4 - (intOf iv).toNat)
  case atStart =>
    refine ⟨0, List.replicate 8 0, by omega, rfl, ?_, by simp, fun z hz => ?_, by rw [dval_zeros, List.take_zero]; simp [dval], fun j _ h8 => by rw [List.getElem?_replicate, if_pos h8], (Below.refl _ _).alloc (Nat.le_refl _) _⟩
    · unfold DBlk
      rw [HZ8.out]
      exact heap_alloc_new _ _
    · rw [List.mem_replicate] at hz
      omega
  case round =>
    obtain ⟨i, zs, hi, rfl, hblk, hzl, hzs, hval, hzero, hb⟩ := hrel
    have HB := hidE hblk
    have HV := hidE hval
    have HZ := hidE hzero
    clear hblk hval hzero
    by_cases hi4 : i < 4
    · obtain ⟨x, hxi⟩ : ∃ x, xs[i]? = some x := ⟨xs[i]'(by have := HLX.out; omega), by simp⟩
      obtain ⟨bx, ox, ex, cx⟩ := (hx.below hb) i x hxi
      subst ex
      have hxs : x < 65536 := sx x (List.mem_of_getElem? hxi)
      obtain ⟨wo, rfl⟩ : ∃ u, u = wr := ⟨wr, rfl⟩
      go_wp2
      go_loopw [8, 27] (fun cv kv wr' => ∃ (k c : Nat) (us : List Nat), k ≤ 4 ∧ kv = .int .i64 k ∧ cv = .int .u64 (c : Int) ∧ c < 65536 ∧ DBlk wr' w.heap.size us ∧ us.length = 8 ∧ Small us ∧ dval us + 65536 ^ (i + k) * c = dval zs + 65536 ^ i * (x * dval (ys.take k)) ∧ (∀ j, i + 4 ≤ j → j < 8 → us[j]? = some 0) ∧ Below w.heap.size w wr') (fun _ kv _ => 4 - (intOf kv).toNat)
      case atStart => exact ⟨0, 0, zs, by omega, rfl, rfl, by omega, HB.out, hzl, hzs, by simp [dval], HZ.out, hb⟩
      case round =>
        obtain ⟨k, cc, us, hk, rfl, rfl, hcc, hblk, hul, hus, hval, hzero, hbw⟩ := hrel
        have HB2 := hidE hblk
        have HV2 := hidE hval
        have HZ2 := hidE hzero
        clear hblk hval hzero
        by_cases hk4 : k < 4
        · obtain ⟨y, hyk⟩ : ∃ y, ys[k]? = some y := ⟨ys[k]'(by have := HLY.out; omega), by simp⟩
          obtain ⟨by', oy, ey, cy⟩ := (hy.below hbw) k y hyk
          subst ey
          have hys : y < 65536 := sy y (List.mem_of_getElem? hyk)
          obtain ⟨o, hoj⟩ : ∃ o, us[i + k]? = some o := ⟨us[i + k]'(by omega), by simp⟩
          have hos : o < 65536 := hus o (List.mem_of_getElem? hoj)
          have co := HB2.out.cell hoj
          have fo := HB2.out.free (i + k)
          have hxy := prod_lt hxs hys
          obtain ⟨S, hS⟩ : ∃ S, S = o + x * y + cc := ⟨_, rfl⟩
          have hSl : S ≤ 4294967295 := by omega
          have hSc : ((o : Int) + (x : Int) * (y : Int) + (cc : Int)) = ((S : Nat) : Int) := by rw [hS, Int.natCast_add, Int.natCast_add, Int.natCast_mul]
          have ha := and16 S (by omega)
          have HS := hidE hS
          have HSC := hidE hSc
          have HA := hidE ha
          have hset := dval_set us (i + k) (S % 65536) o hoj
          have hstep := mul_step (X := x * y) (o := o) (c := cc) hS HV2.out hset
          rw [bk_step, ← dval_take ys k y hyk] at hstep
          have HST := hidE hstep
          clear hS hSc ha hset hstep
          go_wp2_with fail
          go_roundw
          case rel =>
            refine ⟨k + 1, S / 65536, us.set (i + k) (S % 65536), by omega, by go_num, ?_, by omega, ?_, by simp [hul], hus.set (Nat.mod_lt _ (by omega)), HST.out, ?_, hbw.setCell (by simp) _⟩
            · rw [HSC.out]
              rfl
            · rw [HSC.out, HA.out, show ((S % 65536 : Nat) : Int) % 4294967296 = ((S % 65536 : Nat) : Int) from by omega]
              exact HB2.out.set _ _
            · intro j h1 h2
              rw [List.getElem?_set_ne (by omega)]
              exact HZ2.out j h1 h2
          case measure => simp [intOf]; omega
        · have hkk : k = 4 := by omega
          subst hkk
          have h0 := HZ2.out (i + 4) (by omega) (by omega)
          have co := HB2.out.cell h0
          have fo := HB2.out.free (i + 4)
          have hset := dval_set us (i + 4) cc 0 h0
          have hv2 := HV2.out
          rw [List.take_of_length_le (by have := HLY.out; omega)] at hv2
          have hend : dval (us.set (i + 4) cc) = dval (xs.take (i + 1)) * dval ys := by
            rw [dval_take xs i x hxi, Nat.add_mul, ← HV.out, Nat.mul_assoc]
            omega
          have HEND := hidE hend
          have hcm : (cc : Int) % 4294967296 = (cc : Int) := by omega
          clear hend hset hv2
          go_wp2_with fail
          go_roundw
          case rel =>
            refine ⟨i + 1, us.set (i + 4) cc, by omega, by go_num, HB2.out.set _ _, by simp [hul], hus.set hcc, HEND.out, ?_, hbw.setCell (by simp) _⟩
            intro j h1 h2
            rw [List.getElem?_set_ne (by omega)]
            exact HZ2.out j (by omega) h2
          case measure => simp [intOf]; omega
    · have hii : i = 4 := by omega
      subst hii
      go_wp2
      go_ret
      have hv := HV.out
      rw [List.take_of_length_le (by have := HLX.out; omega)] at hv
      exact ⟨⟨w.heap.size, zs, rfl, HB.out, hzl, hzs, hv⟩, hb⟩
end Go.Proofs.Ytpiglmkpmlogjaa
