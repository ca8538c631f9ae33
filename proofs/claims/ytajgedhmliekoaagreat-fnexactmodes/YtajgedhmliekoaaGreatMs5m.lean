/-
  OUR OWN TEXT. Modes: the program's side, whole.
-/
import Derived.Test.YtajgedhmliekoaaGreatMs4m
import Derived.Test.YtajgedhmliekoaaGreatJg
import Derived.Test.YtajgedhmliekoaaGreatJf
import Derived.Deep.RegionHeld3
import Derived.Deep.DrawnRows
namespace Go.Proofs.YtajgedhmliekoaaGreat
open Go.RowKit
attribute [local go_sem ↓] Go.wp_at_zero Go.wp_at_succ

theorem infoIntM : (Tryz.prog.info? 3).map (fun i => (i.zero, i.size, i.bytes)) = some (some (.int .i64 0), 1, 8) := by kernel_rfl
theorem ownsBM {w w' : World} {base : Nat} {t : TypeId} {m : Nat} {v : Value} {n : Nat} {xs : List Value} (h : w.ownsRow base t m v n xs) (hb : Below w.heap.size w w') : w'.ownsRow base t m v n xs :=
  owns_of_block h (fun g hg => hb.block g (h.lt g hg).2)
theorem news_allocM (w : World) (L : List Value) (t : TypeId) (b : Nat) (hb : b = w.heap.size) (ad : Addr) (e : some (⟨b, 0, none⟩ : Addr) = some ad) (j : Nat) (u : Value) (h : L[j]? = some u) : (w.alloc (.cells L.toArray t)).cell? (ad.add j) = some u := by
  subst hb
  cases e
  rw [Addr.add_mid, Nat.zero_add]
  have hb := heap_alloc_new w (.cells L.toArray t)
  simp only [World.cell?, hb]
  simpa using h
theorem cellM {w w' : World} {r : Option Nat} {b j : Nat} (h : w.grownBy w' r) (hl : b < w.heap.size) (hne : some b ≠ r) : w'.cell? ⟨b, j, none⟩ = w.cell? ⟨b, j, none⟩ := by
  unfold World.cell?
  rw [h.block b hl hne]
theorem new_blkM (w : World) (o : Obj) (n : Nat) (h : w.heap.size = n) : (w.alloc o).heap[n]? = some o := by
  subst h
  exact heap_alloc_new _ _
def wys : List Value := [.func (.func 33) #[] #[], .func (.func 34) #[] #[], .func (.func 35) #[] #[], .func (.func 37) #[] #[]]
theorem infoW : (Tryz.prog.info? 68).map (·.size) = some 4 := by kernel_rfl
theorem wys_one : ∀ v ∈ wys, v.oneCell' = true := by
  intro v hv
  simp only [wys, List.mem_cons, List.not_mem_nil, or_false] at hv
  rcases hv with rfl | rfl | rfl | rfl <;> rfl
/-- What is asked of a way. -/
def WayC (K : Nat) (how : Int) (rs : List Ru) : Prop := ∀ (i : Nat) (x : Ru) (a1 : Option Addr) (c1 : Nat) (a2 : Option Addr) (c2 : Nat) (a3 : Option Addr) (c3 : Nat) (w : World), rs[i]? = some x → PtsAt none w a1 x.pats →
  Calls Tryz.prog K #[.int .i64 (i : Int), .agg #[.string x.name, .int .i64 x.sal, .slice a1 x.pats.length c1, .slice a2 x.exprs.length c2, .slice a3 x.acts.length c3]] w fun e w' => e = .returned (.int .i64 (modeOf how i x)) ∧ Below w.heap.size w w'

set_option maxRecDepth 100000 in
set_option maxHeartbeats 3200000 in
theorem iModes_0 (rs : List Ru) (a : Option Addr) (c : Nat) {q : Option Nat} (w : World) (hv : RusAt q w a rs) (hl : rs.length ≤ 16) (hC : ∀ w', Below w.heap.size w w' → Calls Tryz.prog 26 #[.slice a rs.length c] w' fun e w'' => e = .returned (.agg #[.int .i64 0, .int .i64 0, .int .i64 0]) ∧ Below w'.heap.size w' w'') (hW : WayC 33 0 rs) :
    Calls Tryz.prog 14 #[.slice a rs.length c, .int .i64 0] w fun e w' =>
      (∃ a' c', e = .returned (.slice a' (modesL 0 rs).length c') ∧ w'.ownsRow w.heap.size 3 1 (.slice a' (modesL 0 rs).length c') (modesL 0 rs).length (icells (modesL 0 rs))) ∧ Below w.heap.size w w' := by
  have B0 : ∀ o, Below w.heap.size w (w.alloc o) := fun o => (Below.refl _ _).alloc (Nat.le_refl _) _
  have HC := hideH hC
  have HW := hideH hW
  have hfd : ∀ w : World, (Instr.field 57 (.agg #[.int .i64 0, .int .i64 0, .int .i64 0]) 0).run Tryz.prog w = .ok (.int .i64 0) w := fun _ => by kernel_rfl
  clear hC hW
  go_enter Tryz.func14, Tryz.ntmps14
  go_wp2_with (first | (refine wpList_store_blk (by rfl) 68 (.tmp 5) (.tmp 9) (by rfl) w.heap.size wys (by rfl) (by rfl) _ 68 (new_blkM _ _ _ rfl) (by rfl) infoW wys_one ?_; intro w0 hb0 ht0; have hB0 : Below w.heap.size w w0 := (B0 _).trans (ht0.out.below (Nat.le_refl _)); have hcell := range_blk hb0.out 0 _ rfl; rw [Nat.zero_add] at hcell; have hs0 : w.heap.size < w0.heap.size := lt_of_block' hb0.out) | fail)
  refine (HC.out _ hB0).mono ?_
  rintro e w1 ⟨rfl, hb1⟩
  have hB1 : Below w.heap.size w w1 := hB0.trans (hb1.mono hB0.size)
  have g0 : w1.cell? ⟨w.heap.size, 0, none⟩ = some (.func (.func 33) #[] #[]) := cell_below hb1 hcell
  have hs1 : w.heap.size < w1.heap.size := Nat.lt_of_lt_of_le hs0 hb1.size
  go_wp2_with fail
  clear hb1 HC hcell hs0 hB0 hb0 ht0
  clear hfd
  go_loopw [6, 24] (fun v i wr => ∃ (k : Nat) (a' : Option Addr) (c' : Nat), k ≤ rs.length ∧ i = .int .i64 k ∧ v = .slice a' k c' ∧ wr.ownsRow (w.heap.size + 1) 3 1 (.slice a' k c') k (icells (modesL 0 (rs.take k))) ∧ wr.cell? ⟨w.heap.size, 0, none⟩ = some (.func (.func 33) #[] #[]) ∧ w.heap.size < wr.heap.size ∧ Below w.heap.size w wr) (fun _ i _ => rs.length - (intOf i).toNat)
  case atStart => exact ⟨0, none, 0, by omega, rfl, rfl, World.ownsRow_nil _ _ _ _, g0, hs1, hB1⟩
  case round =>
    clear g0 hs1 hB1
    obtain ⟨k, a', c', hk, rfl, rfl, hown, g0, hws, hb⟩ := hrel
    have HO := hideH hown
    clear hown
    by_cases hkl : k < rs.length
    · obtain ⟨x, hxk⟩ : ∃ x, rs[k]? = some x := ⟨rs[k], by simp [hkl]⟩
      obtain ⟨b, o, a1, c1, a2, c2, a3, c3, rfl, _, d0, d1, d2, d3, d4, h_pats, _, _, _⟩ := (hv.below hb).get hxk
      have HS := hideH (modesL_snoc (how := 0) hxk)
      have HP := hideH (h_pats.bare)
      have R1 : ∀ o, Below wr.heap.size wr (wr.alloc o) := fun o => (Below.refl _ _).alloc (Nat.le_refl _) _
      have HX := hideH (fun w' (h : Below wr.heap.size wr w') => HW.out k x a1 c1 a2 c2 a3 c3 w' hxk (HP.out.below h))
      generalize modeOf 0 k x = M at HS HX
      have hbase : ∀ g, (Value.slice a' k c').ownBlock = some g → w.heap.size + 1 ≤ g ∧ g < wr.heap.size := fun g hg => HO.out.lt g hg
      have HBS := hideH hbase
      have g1 : ∀ o, (wr.alloc o).drew.cell? ⟨w.heap.size, 0, none⟩ = some (.func (.func 33) #[] #[]) := fun o => cell_below (R1 o).drew g0
      have HXD := hideH (fun o => HX.out (wr.alloc o).drew (R1 o).drew)
      have HR1 := hideH (fun o => (R1 o).drew)
      have HOW := hideH (fun w' (h : Below wr.heap.size wr w') => ownsBM HO.out h)
      clear h_pats R1 HX hbase HP HW B0
      go_wp2_with fail
      go_region_held3 (fun w' => w'.cell? ⟨w.heap.size, 0, none⟩ = some (.func (.func 33) #[] #[]) ∧ w'.cell? ⟨wr.heap.size, 0, none⟩ = some (.string x.name) ∧ w'.cell? ⟨wr.heap.size, 1, none⟩ = some (.int .i64 x.sal) ∧ w'.cell? ⟨wr.heap.size, 2, none⟩ = some (.slice a1 x.pats.length c1) ∧ w'.cell? ⟨wr.heap.size, 3, none⟩ = some (.slice a2 x.exprs.length c2) ∧ w'.cell? ⟨wr.heap.size, 4, none⟩ = some (.slice a3 x.acts.length c3))
        (first | (go_split_ands; (refine ⟨?_, ?_, ?_, ?_, ?_, ?_⟩ <;> first | with_reducible assumption | with_reducible exact HK3.out _ _ _ (.inl rfl) (by assumption) | with_reducible exact HK3.out _ _ _ (.inr rfl) (by assumption) | with_reducible exact cell_below ((Below.refl _ _).alloc (Nat.le_refl _) _) (by assumption) | with_reducible exact cell_below hb2 (by assumption) | (simp [*]; done)); done) | fail)
        (first
          | (go_at_call 33; with_reducible refine (HXD.out _).mono ?_; rintro e w2 ⟨rfl, hb2⟩; have hW2 := (HR1.out _).trans (hb2.mono (HR1.out _).size); have HW2 := hideH hW2; clear hW2)
          | (refine step_append_any (by rfl) (.tmp 29) (.tmp 36) 23 (by rfl) (w.heap.size + 1) 3 _ 1 8 Tryz.underlying23 infoIntM (by rfl) (by omega) _ k _ (by rfl) ((HOW.out _ HW2.out).alloc _) (some ⟨_, 0, none⟩) 1 1 (by rfl) [.int .i64 M] (by rfl) (fun e => by cases e) (news_allocM _ _ _ _ (by simp)) (by simp [Value.oneCell']) (by unfold maxLen; omega) (by omega) (by have := HW2.out.size; simp; omega) ?_; intro a4 c4 w3 ho3 hg3 hl3; have hk3 : ∀ b j v, (b = w.heap.size ∨ b = wr.heap.size) → (w2.alloc (.cells #[.int .i64 M] 3)).cell? ⟨b, j, none⟩ = some v → w3.cell? ⟨b, j, none⟩ = some v := (fun b j v hb' hv' => by have hlt := World.block_lt_of_cell? _ ⟨b, j, none⟩ hv'; rw [cellM hg3.out hlt (fun e => by obtain ⟨h1, h2⟩ := HBS.out b e.symm; omega)]; exact hv'); have HK3 := hideH hk3; clear hk3)
          | fail)
      rename_i hHld
      obtain ⟨e0, _⟩ := hHld
      have hs2 := HW2.out.size
      have hB3 : Below w.heap.size w w3 := ((hb.trans (HW2.out.mono hb.size)).alloc (by omega) _).grown hg3.out (by simp; omega) (fun g hg => by have := (HBS.out g hg).1; omega)
      have hs3 : w.heap.size < w3.heap.size := by
        have h1 := hg3.out.size
        simp at h1
        omega
      have ho3' : w3.ownsRow (w.heap.size + 1) 3 1 (.slice a4 (k + 1) c4) (k + 1) (icells (modesL 0 (rs.take (k + 1)))) := by
        have := ho3.out
        rw [HS.out]
        simpa [icells] using this
      clear HK3 ho3 hg3 hl3 HXD HOW g1 d0 d1 d2 d3 d4
      go_wp2_with fail
      go_roundw
      case rel => exact ⟨k + 1, a4, c4, by omega, by go_num, rfl, ho3', e0, hs3, hB3⟩
      case measure => simp [intOf]; omega
    · go_wp2
      go_ret
      have hkk : k = rs.length := by omega
      subst hkk
      have h := HO.out
      rw [List.take_of_length_le (Nat.le_refl _)] at h
      have hml := modesL_len 0 rs
      refine ⟨⟨a', c', by rw [hml]; rfl, ?_⟩, hb⟩
      rw [hml]
      exact owns_base h (by omega)

set_option maxRecDepth 100000 in
set_option maxHeartbeats 3200000 in
theorem iModes_1 (rs : List Ru) (a : Option Addr) (c : Nat) {q : Option Nat} (w : World) (hv : RusAt q w a rs) (hl : rs.length ≤ 16) (hC : ∀ w', Below w.heap.size w w' → Calls Tryz.prog 26 #[.slice a rs.length c] w' fun e w'' => e = .returned (.agg #[.int .i64 0, .int .i64 0, .int .i64 0]) ∧ Below w'.heap.size w' w'') (hW : WayC 34 1 rs) :
    Calls Tryz.prog 14 #[.slice a rs.length c, .int .i64 1] w fun e w' =>
      (∃ a' c', e = .returned (.slice a' (modesL 1 rs).length c') ∧ w'.ownsRow w.heap.size 3 1 (.slice a' (modesL 1 rs).length c') (modesL 1 rs).length (icells (modesL 1 rs))) ∧ Below w.heap.size w w' := by
  have B0 : ∀ o, Below w.heap.size w (w.alloc o) := fun o => (Below.refl _ _).alloc (Nat.le_refl _) _
  have HC := hideH hC
  have HW := hideH hW
  have hfd : ∀ w : World, (Instr.field 57 (.agg #[.int .i64 0, .int .i64 0, .int .i64 0]) 0).run Tryz.prog w = .ok (.int .i64 0) w := fun _ => by kernel_rfl
  clear hC hW
  go_enter Tryz.func14, Tryz.ntmps14
  go_wp2_with (first | (refine wpList_store_blk (by rfl) 68 (.tmp 5) (.tmp 9) (by rfl) w.heap.size wys (by rfl) (by rfl) _ 68 (new_blkM _ _ _ rfl) (by rfl) infoW wys_one ?_; intro w0 hb0 ht0; have hB0 : Below w.heap.size w w0 := (B0 _).trans (ht0.out.below (Nat.le_refl _)); have hcell := range_blk hb0.out 1 _ rfl; rw [Nat.zero_add] at hcell; have hs0 : w.heap.size < w0.heap.size := lt_of_block' hb0.out) | fail)
  refine (HC.out _ hB0).mono ?_
  rintro e w1 ⟨rfl, hb1⟩
  have hB1 : Below w.heap.size w w1 := hB0.trans (hb1.mono hB0.size)
  have g0 : w1.cell? ⟨w.heap.size, 1, none⟩ = some (.func (.func 34) #[] #[]) := cell_below hb1 hcell
  have hs1 : w.heap.size < w1.heap.size := Nat.lt_of_lt_of_le hs0 hb1.size
  go_wp2_with fail
  clear hb1 HC hcell hs0 hB0 hb0 ht0
  clear hfd
  go_loopw [6, 24] (fun v i wr => ∃ (k : Nat) (a' : Option Addr) (c' : Nat), k ≤ rs.length ∧ i = .int .i64 k ∧ v = .slice a' k c' ∧ wr.ownsRow (w.heap.size + 1) 3 1 (.slice a' k c') k (icells (modesL 1 (rs.take k))) ∧ wr.cell? ⟨w.heap.size, 1, none⟩ = some (.func (.func 34) #[] #[]) ∧ w.heap.size < wr.heap.size ∧ Below w.heap.size w wr) (fun _ i _ => rs.length - (intOf i).toNat)
  case atStart => exact ⟨0, none, 0, by omega, rfl, rfl, World.ownsRow_nil _ _ _ _, g0, hs1, hB1⟩
  case round =>
    clear g0 hs1 hB1
    obtain ⟨k, a', c', hk, rfl, rfl, hown, g0, hws, hb⟩ := hrel
    have HO := hideH hown
    clear hown
    by_cases hkl : k < rs.length
    · obtain ⟨x, hxk⟩ : ∃ x, rs[k]? = some x := ⟨rs[k], by simp [hkl]⟩
      obtain ⟨b, o, a1, c1, a2, c2, a3, c3, rfl, _, d0, d1, d2, d3, d4, h_pats, _, _, _⟩ := (hv.below hb).get hxk
      have HS := hideH (modesL_snoc (how := 1) hxk)
      have HP := hideH (h_pats.bare)
      have R1 : ∀ o, Below wr.heap.size wr (wr.alloc o) := fun o => (Below.refl _ _).alloc (Nat.le_refl _) _
      have HX := hideH (fun w' (h : Below wr.heap.size wr w') => HW.out k x a1 c1 a2 c2 a3 c3 w' hxk (HP.out.below h))
      generalize modeOf 1 k x = M at HS HX
      have hbase : ∀ g, (Value.slice a' k c').ownBlock = some g → w.heap.size + 1 ≤ g ∧ g < wr.heap.size := fun g hg => HO.out.lt g hg
      have HBS := hideH hbase
      have g1 : ∀ o, (wr.alloc o).drew.cell? ⟨w.heap.size, 1, none⟩ = some (.func (.func 34) #[] #[]) := fun o => cell_below (R1 o).drew g0
      have HXD := hideH (fun o => HX.out (wr.alloc o).drew (R1 o).drew)
      have HR1 := hideH (fun o => (R1 o).drew)
      have HOW := hideH (fun w' (h : Below wr.heap.size wr w') => ownsBM HO.out h)
      clear h_pats R1 HX hbase HP HW B0
      go_wp2_with fail
      go_region_held3 (fun w' => w'.cell? ⟨w.heap.size, 1, none⟩ = some (.func (.func 34) #[] #[]) ∧ w'.cell? ⟨wr.heap.size, 0, none⟩ = some (.string x.name) ∧ w'.cell? ⟨wr.heap.size, 1, none⟩ = some (.int .i64 x.sal) ∧ w'.cell? ⟨wr.heap.size, 2, none⟩ = some (.slice a1 x.pats.length c1) ∧ w'.cell? ⟨wr.heap.size, 3, none⟩ = some (.slice a2 x.exprs.length c2) ∧ w'.cell? ⟨wr.heap.size, 4, none⟩ = some (.slice a3 x.acts.length c3))
        (first | (go_split_ands; (refine ⟨?_, ?_, ?_, ?_, ?_, ?_⟩ <;> first | with_reducible assumption | with_reducible exact HK3.out _ _ _ (.inl rfl) (by assumption) | with_reducible exact HK3.out _ _ _ (.inr rfl) (by assumption) | with_reducible exact cell_below ((Below.refl _ _).alloc (Nat.le_refl _) _) (by assumption) | with_reducible exact cell_below hb2 (by assumption) | (simp [*]; done)); done) | fail)
        (first
          | (go_at_call 34; with_reducible refine (HXD.out _).mono ?_; rintro e w2 ⟨rfl, hb2⟩; have hW2 := (HR1.out _).trans (hb2.mono (HR1.out _).size); have HW2 := hideH hW2; clear hW2)
          | (refine step_append_any (by rfl) (.tmp 29) (.tmp 36) 23 (by rfl) (w.heap.size + 1) 3 _ 1 8 Tryz.underlying23 infoIntM (by rfl) (by omega) _ k _ (by rfl) ((HOW.out _ HW2.out).alloc _) (some ⟨_, 0, none⟩) 1 1 (by rfl) [.int .i64 M] (by rfl) (fun e => by cases e) (news_allocM _ _ _ _ (by simp)) (by simp [Value.oneCell']) (by unfold maxLen; omega) (by omega) (by have := HW2.out.size; simp; omega) ?_; intro a4 c4 w3 ho3 hg3 hl3; have hk3 : ∀ b j v, (b = w.heap.size ∨ b = wr.heap.size) → (w2.alloc (.cells #[.int .i64 M] 3)).cell? ⟨b, j, none⟩ = some v → w3.cell? ⟨b, j, none⟩ = some v := (fun b j v hb' hv' => by have hlt := World.block_lt_of_cell? _ ⟨b, j, none⟩ hv'; rw [cellM hg3.out hlt (fun e => by obtain ⟨h1, h2⟩ := HBS.out b e.symm; omega)]; exact hv'); have HK3 := hideH hk3; clear hk3)
          | fail)
      rename_i hHld
      obtain ⟨e0, _⟩ := hHld
      have hs2 := HW2.out.size
      have hB3 : Below w.heap.size w w3 := ((hb.trans (HW2.out.mono hb.size)).alloc (by omega) _).grown hg3.out (by simp; omega) (fun g hg => by have := (HBS.out g hg).1; omega)
      have hs3 : w.heap.size < w3.heap.size := by
        have h1 := hg3.out.size
        simp at h1
        omega
      have ho3' : w3.ownsRow (w.heap.size + 1) 3 1 (.slice a4 (k + 1) c4) (k + 1) (icells (modesL 1 (rs.take (k + 1)))) := by
        have := ho3.out
        rw [HS.out]
        simpa [icells] using this
      clear HK3 ho3 hg3 hl3 HXD HOW g1 d0 d1 d2 d3 d4
      go_wp2_with fail
      go_roundw
      case rel => exact ⟨k + 1, a4, c4, by omega, by go_num, rfl, ho3', e0, hs3, hB3⟩
      case measure => simp [intOf]; omega
    · go_wp2
      go_ret
      have hkk : k = rs.length := by omega
      subst hkk
      have h := HO.out
      rw [List.take_of_length_le (Nat.le_refl _)] at h
      have hml := modesL_len 1 rs
      refine ⟨⟨a', c', by rw [hml]; rfl, ?_⟩, hb⟩
      rw [hml]
      exact owns_base h (by omega)

set_option maxRecDepth 100000 in
set_option maxHeartbeats 3200000 in
theorem iModes_2 (rs : List Ru) (a : Option Addr) (c : Nat) {q : Option Nat} (w : World) (hv : RusAt q w a rs) (hl : rs.length ≤ 16) (hC : ∀ w', Below w.heap.size w w' → Calls Tryz.prog 26 #[.slice a rs.length c] w' fun e w'' => e = .returned (.agg #[.int .i64 0, .int .i64 0, .int .i64 0]) ∧ Below w'.heap.size w' w'') (hW : WayC 35 2 rs) :
    Calls Tryz.prog 14 #[.slice a rs.length c, .int .i64 2] w fun e w' =>
      (∃ a' c', e = .returned (.slice a' (modesL 2 rs).length c') ∧ w'.ownsRow w.heap.size 3 1 (.slice a' (modesL 2 rs).length c') (modesL 2 rs).length (icells (modesL 2 rs))) ∧ Below w.heap.size w w' := by
  have B0 : ∀ o, Below w.heap.size w (w.alloc o) := fun o => (Below.refl _ _).alloc (Nat.le_refl _) _
  have HC := hideH hC
  have HW := hideH hW
  have hfd : ∀ w : World, (Instr.field 57 (.agg #[.int .i64 0, .int .i64 0, .int .i64 0]) 0).run Tryz.prog w = .ok (.int .i64 0) w := fun _ => by kernel_rfl
  clear hC hW
  go_enter Tryz.func14, Tryz.ntmps14
  go_wp2_with (first | (refine wpList_store_blk (by rfl) 68 (.tmp 5) (.tmp 9) (by rfl) w.heap.size wys (by rfl) (by rfl) _ 68 (new_blkM _ _ _ rfl) (by rfl) infoW wys_one ?_; intro w0 hb0 ht0; have hB0 : Below w.heap.size w w0 := (B0 _).trans (ht0.out.below (Nat.le_refl _)); have hcell := range_blk hb0.out 2 _ rfl; rw [Nat.zero_add] at hcell; have hs0 : w.heap.size < w0.heap.size := lt_of_block' hb0.out) | fail)
  refine (HC.out _ hB0).mono ?_
  rintro e w1 ⟨rfl, hb1⟩
  have hB1 : Below w.heap.size w w1 := hB0.trans (hb1.mono hB0.size)
  have g0 : w1.cell? ⟨w.heap.size, 2, none⟩ = some (.func (.func 35) #[] #[]) := cell_below hb1 hcell
  have hs1 : w.heap.size < w1.heap.size := Nat.lt_of_lt_of_le hs0 hb1.size
  go_wp2_with fail
  clear hb1 HC hcell hs0 hB0 hb0 ht0
  clear hfd
  go_loopw [6, 24] (fun v i wr => ∃ (k : Nat) (a' : Option Addr) (c' : Nat), k ≤ rs.length ∧ i = .int .i64 k ∧ v = .slice a' k c' ∧ wr.ownsRow (w.heap.size + 1) 3 1 (.slice a' k c') k (icells (modesL 2 (rs.take k))) ∧ wr.cell? ⟨w.heap.size, 2, none⟩ = some (.func (.func 35) #[] #[]) ∧ w.heap.size < wr.heap.size ∧ Below w.heap.size w wr) (fun _ i _ => rs.length - (intOf i).toNat)
  case atStart => exact ⟨0, none, 0, by omega, rfl, rfl, World.ownsRow_nil _ _ _ _, g0, hs1, hB1⟩
  case round =>
    clear g0 hs1 hB1
    obtain ⟨k, a', c', hk, rfl, rfl, hown, g0, hws, hb⟩ := hrel
    have HO := hideH hown
    clear hown
    by_cases hkl : k < rs.length
    · obtain ⟨x, hxk⟩ : ∃ x, rs[k]? = some x := ⟨rs[k], by simp [hkl]⟩
      obtain ⟨b, o, a1, c1, a2, c2, a3, c3, rfl, _, d0, d1, d2, d3, d4, h_pats, _, _, _⟩ := (hv.below hb).get hxk
      have HS := hideH (modesL_snoc (how := 2) hxk)
      have HP := hideH (h_pats.bare)
      have R1 : ∀ o, Below wr.heap.size wr (wr.alloc o) := fun o => (Below.refl _ _).alloc (Nat.le_refl _) _
      have HX := hideH (fun w' (h : Below wr.heap.size wr w') => HW.out k x a1 c1 a2 c2 a3 c3 w' hxk (HP.out.below h))
      generalize modeOf 2 k x = M at HS HX
      have hbase : ∀ g, (Value.slice a' k c').ownBlock = some g → w.heap.size + 1 ≤ g ∧ g < wr.heap.size := fun g hg => HO.out.lt g hg
      have HBS := hideH hbase
      have g1 : ∀ o, (wr.alloc o).drew.cell? ⟨w.heap.size, 2, none⟩ = some (.func (.func 35) #[] #[]) := fun o => cell_below (R1 o).drew g0
      have HXD := hideH (fun o => HX.out (wr.alloc o).drew (R1 o).drew)
      have HR1 := hideH (fun o => (R1 o).drew)
      have HOW := hideH (fun w' (h : Below wr.heap.size wr w') => ownsBM HO.out h)
      clear h_pats R1 HX hbase HP HW B0
      go_wp2_with fail
      go_region_held3 (fun w' => w'.cell? ⟨w.heap.size, 2, none⟩ = some (.func (.func 35) #[] #[]) ∧ w'.cell? ⟨wr.heap.size, 0, none⟩ = some (.string x.name) ∧ w'.cell? ⟨wr.heap.size, 1, none⟩ = some (.int .i64 x.sal) ∧ w'.cell? ⟨wr.heap.size, 2, none⟩ = some (.slice a1 x.pats.length c1) ∧ w'.cell? ⟨wr.heap.size, 3, none⟩ = some (.slice a2 x.exprs.length c2) ∧ w'.cell? ⟨wr.heap.size, 4, none⟩ = some (.slice a3 x.acts.length c3))
        (first | (go_split_ands; (refine ⟨?_, ?_, ?_, ?_, ?_, ?_⟩ <;> first | with_reducible assumption | with_reducible exact HK3.out _ _ _ (.inl rfl) (by assumption) | with_reducible exact HK3.out _ _ _ (.inr rfl) (by assumption) | with_reducible exact cell_below ((Below.refl _ _).alloc (Nat.le_refl _) _) (by assumption) | with_reducible exact cell_below hb2 (by assumption) | (simp [*]; done)); done) | fail)
        (first
          | (go_at_call 35; with_reducible refine (HXD.out _).mono ?_; rintro e w2 ⟨rfl, hb2⟩; have hW2 := (HR1.out _).trans (hb2.mono (HR1.out _).size); have HW2 := hideH hW2; clear hW2)
          | (refine step_append_any (by rfl) (.tmp 29) (.tmp 36) 23 (by rfl) (w.heap.size + 1) 3 _ 1 8 Tryz.underlying23 infoIntM (by rfl) (by omega) _ k _ (by rfl) ((HOW.out _ HW2.out).alloc _) (some ⟨_, 0, none⟩) 1 1 (by rfl) [.int .i64 M] (by rfl) (fun e => by cases e) (news_allocM _ _ _ _ (by simp)) (by simp [Value.oneCell']) (by unfold maxLen; omega) (by omega) (by have := HW2.out.size; simp; omega) ?_; intro a4 c4 w3 ho3 hg3 hl3; have hk3 : ∀ b j v, (b = w.heap.size ∨ b = wr.heap.size) → (w2.alloc (.cells #[.int .i64 M] 3)).cell? ⟨b, j, none⟩ = some v → w3.cell? ⟨b, j, none⟩ = some v := (fun b j v hb' hv' => by have hlt := World.block_lt_of_cell? _ ⟨b, j, none⟩ hv'; rw [cellM hg3.out hlt (fun e => by obtain ⟨h1, h2⟩ := HBS.out b e.symm; omega)]; exact hv'); have HK3 := hideH hk3; clear hk3)
          | fail)
      rename_i hHld
      obtain ⟨e0, _⟩ := hHld
      have hs2 := HW2.out.size
      have hB3 : Below w.heap.size w w3 := ((hb.trans (HW2.out.mono hb.size)).alloc (by omega) _).grown hg3.out (by simp; omega) (fun g hg => by have := (HBS.out g hg).1; omega)
      have hs3 : w.heap.size < w3.heap.size := by
        have h1 := hg3.out.size
        simp at h1
        omega
      have ho3' : w3.ownsRow (w.heap.size + 1) 3 1 (.slice a4 (k + 1) c4) (k + 1) (icells (modesL 2 (rs.take (k + 1)))) := by
        have := ho3.out
        rw [HS.out]
        simpa [icells] using this
      clear HK3 ho3 hg3 hl3 HXD HOW g1 d0 d1 d2 d3 d4
      go_wp2_with fail
      go_roundw
      case rel => exact ⟨k + 1, a4, c4, by omega, by go_num, rfl, ho3', e0, hs3, hB3⟩
      case measure => simp [intOf]; omega
    · go_wp2
      go_ret
      have hkk : k = rs.length := by omega
      subst hkk
      have h := HO.out
      rw [List.take_of_length_le (Nat.le_refl _)] at h
      have hml := modesL_len 2 rs
      refine ⟨⟨a', c', by rw [hml]; rfl, ?_⟩, hb⟩
      rw [hml]
      exact owns_base h (by omega)

set_option maxRecDepth 100000 in
set_option maxHeartbeats 3200000 in
theorem iModes_3 (rs : List Ru) (a : Option Addr) (c : Nat) {q : Option Nat} (w : World) (hv : RusAt q w a rs) (hl : rs.length ≤ 16) (hC : ∀ w', Below w.heap.size w w' → Calls Tryz.prog 26 #[.slice a rs.length c] w' fun e w'' => e = .returned (.agg #[.int .i64 0, .int .i64 0, .int .i64 0]) ∧ Below w'.heap.size w' w'') (hW : WayC 37 3 rs) :
    Calls Tryz.prog 14 #[.slice a rs.length c, .int .i64 3] w fun e w' =>
      (∃ a' c', e = .returned (.slice a' (modesL 3 rs).length c') ∧ w'.ownsRow w.heap.size 3 1 (.slice a' (modesL 3 rs).length c') (modesL 3 rs).length (icells (modesL 3 rs))) ∧ Below w.heap.size w w' := by
  have B0 : ∀ o, Below w.heap.size w (w.alloc o) := fun o => (Below.refl _ _).alloc (Nat.le_refl _) _
  have HC := hideH hC
  have HW := hideH hW
  have hfd : ∀ w : World, (Instr.field 57 (.agg #[.int .i64 0, .int .i64 0, .int .i64 0]) 0).run Tryz.prog w = .ok (.int .i64 0) w := fun _ => by kernel_rfl
  clear hC hW
  go_enter Tryz.func14, Tryz.ntmps14
  go_wp2_with (first | (refine wpList_store_blk (by rfl) 68 (.tmp 5) (.tmp 9) (by rfl) w.heap.size wys (by rfl) (by rfl) _ 68 (new_blkM _ _ _ rfl) (by rfl) infoW wys_one ?_; intro w0 hb0 ht0; have hB0 : Below w.heap.size w w0 := (B0 _).trans (ht0.out.below (Nat.le_refl _)); have hcell := range_blk hb0.out 3 _ rfl; rw [Nat.zero_add] at hcell; have hs0 : w.heap.size < w0.heap.size := lt_of_block' hb0.out) | fail)
  refine (HC.out _ hB0).mono ?_
  rintro e w1 ⟨rfl, hb1⟩
  have hB1 : Below w.heap.size w w1 := hB0.trans (hb1.mono hB0.size)
  have g0 : w1.cell? ⟨w.heap.size, 3, none⟩ = some (.func (.func 37) #[] #[]) := cell_below hb1 hcell
  have hs1 : w.heap.size < w1.heap.size := Nat.lt_of_lt_of_le hs0 hb1.size
  go_wp2_with fail
  clear hb1 HC hcell hs0 hB0 hb0 ht0
  clear hfd
  go_loopw [6, 24] (fun v i wr => ∃ (k : Nat) (a' : Option Addr) (c' : Nat), k ≤ rs.length ∧ i = .int .i64 k ∧ v = .slice a' k c' ∧ wr.ownsRow (w.heap.size + 1) 3 1 (.slice a' k c') k (icells (modesL 3 (rs.take k))) ∧ wr.cell? ⟨w.heap.size, 3, none⟩ = some (.func (.func 37) #[] #[]) ∧ w.heap.size < wr.heap.size ∧ Below w.heap.size w wr) (fun _ i _ => rs.length - (intOf i).toNat)
  case atStart => exact ⟨0, none, 0, by omega, rfl, rfl, World.ownsRow_nil _ _ _ _, g0, hs1, hB1⟩
  case round =>
    clear g0 hs1 hB1
    obtain ⟨k, a', c', hk, rfl, rfl, hown, g0, hws, hb⟩ := hrel
    have HO := hideH hown
    clear hown
    by_cases hkl : k < rs.length
    · obtain ⟨x, hxk⟩ : ∃ x, rs[k]? = some x := ⟨rs[k], by simp [hkl]⟩
      obtain ⟨b, o, a1, c1, a2, c2, a3, c3, rfl, _, d0, d1, d2, d3, d4, h_pats, _, _, _⟩ := (hv.below hb).get hxk
      have HS := hideH (modesL_snoc (how := 3) hxk)
      have HP := hideH (h_pats.bare)
      have R1 : ∀ o, Below wr.heap.size wr (wr.alloc o) := fun o => (Below.refl _ _).alloc (Nat.le_refl _) _
      have HX := hideH (fun w' (h : Below wr.heap.size wr w') => HW.out k x a1 c1 a2 c2 a3 c3 w' hxk (HP.out.below h))
      generalize modeOf 3 k x = M at HS HX
      have hbase : ∀ g, (Value.slice a' k c').ownBlock = some g → w.heap.size + 1 ≤ g ∧ g < wr.heap.size := fun g hg => HO.out.lt g hg
      have HBS := hideH hbase
      have g1 : ∀ o, (wr.alloc o).drew.cell? ⟨w.heap.size, 3, none⟩ = some (.func (.func 37) #[] #[]) := fun o => cell_below (R1 o).drew g0
      have HXD := hideH (fun o => HX.out (wr.alloc o).drew (R1 o).drew)
      have HR1 := hideH (fun o => (R1 o).drew)
      have HOW := hideH (fun w' (h : Below wr.heap.size wr w') => ownsBM HO.out h)
      clear h_pats R1 HX hbase HP HW B0
      go_wp2_with fail
      go_region_held3 (fun w' => w'.cell? ⟨w.heap.size, 3, none⟩ = some (.func (.func 37) #[] #[]) ∧ w'.cell? ⟨wr.heap.size, 0, none⟩ = some (.string x.name) ∧ w'.cell? ⟨wr.heap.size, 1, none⟩ = some (.int .i64 x.sal) ∧ w'.cell? ⟨wr.heap.size, 2, none⟩ = some (.slice a1 x.pats.length c1) ∧ w'.cell? ⟨wr.heap.size, 3, none⟩ = some (.slice a2 x.exprs.length c2) ∧ w'.cell? ⟨wr.heap.size, 4, none⟩ = some (.slice a3 x.acts.length c3))
        (first | (go_split_ands; (refine ⟨?_, ?_, ?_, ?_, ?_, ?_⟩ <;> first | with_reducible assumption | with_reducible exact HK3.out _ _ _ (.inl rfl) (by assumption) | with_reducible exact HK3.out _ _ _ (.inr rfl) (by assumption) | with_reducible exact cell_below ((Below.refl _ _).alloc (Nat.le_refl _) _) (by assumption) | with_reducible exact cell_below hb2 (by assumption) | (simp [*]; done)); done) | fail)
        (first
          | (go_at_call 37; with_reducible refine (HXD.out _).mono ?_; rintro e w2 ⟨rfl, hb2⟩; have hW2 := (HR1.out _).trans (hb2.mono (HR1.out _).size); have HW2 := hideH hW2; clear hW2)
          | (refine step_append_any (by rfl) (.tmp 29) (.tmp 36) 23 (by rfl) (w.heap.size + 1) 3 _ 1 8 Tryz.underlying23 infoIntM (by rfl) (by omega) _ k _ (by rfl) ((HOW.out _ HW2.out).alloc _) (some ⟨_, 0, none⟩) 1 1 (by rfl) [.int .i64 M] (by rfl) (fun e => by cases e) (news_allocM _ _ _ _ (by simp)) (by simp [Value.oneCell']) (by unfold maxLen; omega) (by omega) (by have := HW2.out.size; simp; omega) ?_; intro a4 c4 w3 ho3 hg3 hl3; have hk3 : ∀ b j v, (b = w.heap.size ∨ b = wr.heap.size) → (w2.alloc (.cells #[.int .i64 M] 3)).cell? ⟨b, j, none⟩ = some v → w3.cell? ⟨b, j, none⟩ = some v := (fun b j v hb' hv' => by have hlt := World.block_lt_of_cell? _ ⟨b, j, none⟩ hv'; rw [cellM hg3.out hlt (fun e => by obtain ⟨h1, h2⟩ := HBS.out b e.symm; omega)]; exact hv'); have HK3 := hideH hk3; clear hk3)
          | fail)
      rename_i hHld
      obtain ⟨e0, _⟩ := hHld
      have hs2 := HW2.out.size
      have hB3 : Below w.heap.size w w3 := ((hb.trans (HW2.out.mono hb.size)).alloc (by omega) _).grown hg3.out (by simp; omega) (fun g hg => by have := (HBS.out g hg).1; omega)
      have hs3 : w.heap.size < w3.heap.size := by
        have h1 := hg3.out.size
        simp at h1
        omega
      have ho3' : w3.ownsRow (w.heap.size + 1) 3 1 (.slice a4 (k + 1) c4) (k + 1) (icells (modesL 3 (rs.take (k + 1)))) := by
        have := ho3.out
        rw [HS.out]
        simpa [icells] using this
      clear HK3 ho3 hg3 hl3 HXD HOW g1 d0 d1 d2 d3 d4
      go_wp2_with fail
      go_roundw
      case rel => exact ⟨k + 1, a4, c4, by omega, by go_num, rfl, ho3', e0, hs3, hB3⟩
      case measure => simp [intOf]; omega
    · go_wp2
      go_ret
      have hkk : k = rs.length := by omega
      subst hkk
      have h := HO.out
      rw [List.take_of_length_le (Nat.le_refl _)] at h
      have hml := modesL_len 3 rs
      refine ⟨⟨a', c', by rw [hml]; rfl, ?_⟩, hb⟩
      rw [hml]
      exact owns_base h (by omega)
end Go.Proofs.YtajgedhmliekoaaGreat
