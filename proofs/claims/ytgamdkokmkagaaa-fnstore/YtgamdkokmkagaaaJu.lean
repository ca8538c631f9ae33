/-
  OUR OWN TEXT. Ret, Chg, one behind the other.
-/
import Derived.Test.YtgamdkokmkagaaaWom
import Derived.Test.YtgamdkokmkagaaaJp
import Derived.Deep.RegionHeld3
namespace Go.Proofs.Ytgamdkokmkagaaa
open Go.RowKit Go.Maps
attribute [local go_sem ↓] Go.wp_at_zero Go.wp_at_succ

/-- Six cells of a block that is known whole. -/
theorem six {w : World} {b : Nat} {r : Array Value} {t : TypeId} (h : w.heap[b]? = some (.cells r t (0, 0))) (hs : r.size = 6) : ∃ x0 x1 x2 x3 x4 x5, w.cell? ⟨b, 0, none⟩ = some x0 ∧ w.cell? ⟨b, 1, none⟩ = some x1 ∧ w.cell? ⟨b, 2, none⟩ = some x2 ∧ w.cell? ⟨b, 3, none⟩ = some x3 ∧ w.cell? ⟨b, 4, none⟩ = some x4 ∧ w.cell? ⟨b, 5, none⟩ = some x5 ∧
    w.frozen? ⟨b, 0, none⟩ = false ∧ w.frozen? ⟨b, 1, none⟩ = false ∧ w.frozen? ⟨b, 2, none⟩ = false ∧ w.frozen? ⟨b, 3, none⟩ = false ∧ w.frozen? ⟨b, 4, none⟩ = false ∧ w.frozen? ⟨b, 5, none⟩ = false := by
  have hc : ∀ j (hj : j < 6), w.cell? ⟨b, j, none⟩ = some (r[j]'(by omega)) := fun j hj => by simp [World.cell?, h, show j < r.size by omega]
  have hf : ∀ j, w.frozen? ⟨b, j, none⟩ = false := fun j => by simp [World.frozen?, h]
  exact ⟨_, _, _, _, _, _, hc 0 (by omega), hc 1 (by omega), hc 2 (by omega), hc 3 (by omega), hc 4 (by omega), hc 5 (by omega), hf _, hf _, hf _, hf _, hf _, hf _⟩

theorem cell_set {w : World} {b o : Nat} {x : Value} (h : w.cell? ⟨b, o, none⟩ = some x) {q : Addr} (hp : b ≠ q.block) (u : Value) : (w.setCell q u).cell? ⟨b, o, none⟩ = some x := by
  rw [← h]
  exact World.cell?_of_block (a := ⟨b, o, none⟩) (Below.heap_setCell _ _ _ _ hp)

theorem cell_drew {w : World} {p : Addr} {x : Value} (h : w.cell? p = some x) : w.drew.cell? p = some x := h

def C6.cells (r : C6) (a : Option Addr) (c : Nat) : List Value := [.slice a r.fs.length c, .int .i64 r.nx, .int .i64 r.cp, .bool r.sg, .int .i64 r.code, .int .i64 r.tag]
theorem C6.one (r : C6) (a : Option Addr) (c : Nat) : ∀ v ∈ r.cells a c, v.oneCell' = true := by
  intro v hv
  simp only [C6.cells, List.mem_cons, List.not_mem_nil, or_false] at hv
  rcases hv with rfl | rfl | rfl | rfl | rfl | rfl <;> rfl
theorem infoC : (Try.prog.info? 33).map (·.size) = some 6 := by kernel_rfl
theorem C6.load {w : World} {b : Nat} {r : C6} {a : Option Addr} {c : Nat} {fr : Nat × Nat} (h : w.heap[b]? = some (.cells (r.cells a c).toArray 33 fr)) : (loadVar 33 ⟨b, 0, none⟩).run Try.prog w = .ok (r.val a c) w :=
  run_loadVar_mid (P := Try.prog) w b 0 33 (r.cells a c) _ (range_blk h) Try.underlying33 rfl infoC

set_option maxRecDepth 100000 in
set_option maxHeartbeats 1600000 in
theorem retract_any (a : Option Addr) (c : Nat) (fs : List F) (nx cp : Int) (sg : Bool) (cls : ByteArray) (tag : Int) (sa : Option Addr) (n sc : Nat) (w : World) (hv : FactsAt w a fs) (hc : fs.length ≤ c) (hl : fs.length ≤ 1048576) (hs : ∀ f ∈ fs, Sized f) (hr : ∀ f ∈ fs, Read f) (hw : (Lit.int .i64 tag).wf = true) :
    Calls Try.prog 121 #[.agg #[.slice a fs.length c, .int .i64 nx, .int .i64 cp, .bool sg], .agg #[.string cls, .int .i64 tag, .slice sa n sc]] w fun e w' =>
      (∃ a' c' xs, e = .returned ((retr fs nx cp sg tag).val a' c') ∧ OFs w' w.heap.size (.slice a' (retr fs nx cp sg tag).fs.length c') (retr fs nx cp sg tag).fs.length (retr fs nx cp sg tag).fs xs) ∧ Below w.heap.size w w' := by
  have B3 : ∀ o o' o'', Below w.heap.size w (((w.alloc o).alloc o').alloc o'') := fun o o' o'' => (((Below.refl _ _).alloc (Nat.le_refl _) _).alloc (by simp) _).alloc (by simp; omega) _
  have hsl : ∀ f ∈ fs, f.slots.length ≤ 1048576 := fun f hf => (hs f hf).2.1
  cases hva : sValid fs nx cp sg
  · rw [retr_bad hva]
    go_enter Try.func121, Try.ntmps121
    go_wp2_with (go_at_call 65; refine (iStoreValid_any a c fs nx cp sg _ (hv.below (B3 _ _ _)) hl hs hr).mono ?_; rintro e w1 ⟨rfl, hb1⟩; obtain ⟨hc1, hf1⟩ := bcell hb1)
    refine bodyPost_ret (v := C6.bad.val none 0) (by simp [results, Try.results121, go_sem, hc1, C6.val, C6.bad]) rfl ⟨⟨none, 0, [], rfl, OFs.nil _ _⟩, ?_⟩
    have hB : Below w.heap.size w w1 := (B3 _ _ _).trans (hb1.mono (by simp; omega))
    exact (((((hB.setCell (by simp; omega) _).setCell (by simp; omega) _).setCell (by simp; omega) _).setCell (by simp; omega) _).setCell (by simp; omega) _).setCell (by simp; omega) _
  · have hgf := sValid_from hva
    cases hi : fidx tag fs with
    | none =>
      rw [retr_none hva hi]
      go_enter Try.func121, Try.ntmps121
      go_wp2_with (go_at_call 65; refine (iStoreValid_any a c fs nx cp sg _ (hv.below (B3 _ _ _)) hl hs hr).mono ?_; rintro e w1 ⟨rfl, hb1⟩; obtain ⟨hc1, hf1⟩ := bcell hb1)
      have hB1 : Below w.heap.size w w1 := (B3 _ _ _).trans (hb1.mono (by simp; omega))
      have hzw : w.heap.size + 1 + 1 + 1 ≤ w1.heap.size := by have := hb1.size; simpa using this
      have q0 : w1.cell? ⟨w.heap.size, 0, none⟩ = some (.slice a fs.length c) := by rw [hc1 _ _ (by simp; omega)]; simp [go_sem]
      have q1 : w1.cell? ⟨w.heap.size, 1, none⟩ = some (.int .i64 nx) := by rw [hc1 _ _ (by simp; omega)]; simp [go_sem]
      have q2 : w1.cell? ⟨w.heap.size, 2, none⟩ = some (.int .i64 cp) := by rw [hc1 _ _ (by simp; omega)]; simp [go_sem]
      have q3 : w1.cell? ⟨w.heap.size, 3, none⟩ = some (.bool sg) := by rw [hc1 _ _ (by simp; omega)]; simp [go_sem]
      have q4 : w1.cell? ⟨w.heap.size + 1, 1, none⟩ = some (.int .i64 tag) := by rw [hc1 _ _ (by simp)]; simp [go_sem]
      have hR : ∃ r : Array Value, w1.heap[w.heap.size + 1 + 1]? = some (.cells r 33 (0, 0)) ∧ r.size = 6 := ⟨_, (hb1.block _ (by simp)).trans (new_blk _ _ _ (by simp)), rfl⟩
      clear hc1 hf1 hb1
      have hv1 := hv.below hB1
      go_region_held3 (fun w' => w'.cell? ⟨w.heap.size, 0, none⟩ = some (.slice a fs.length c) ∧ w'.cell? ⟨w.heap.size, 1, none⟩ = some (.int .i64 nx) ∧ w'.cell? ⟨w.heap.size, 2, none⟩ = some (.int .i64 cp) ∧ w'.cell? ⟨w.heap.size, 3, none⟩ = some (.bool sg) ∧ w'.cell? ⟨w.heap.size + 1, 1, none⟩ = some (.int .i64 tag))
        ((go_split_ands; refine ⟨?_, ?_, ?_, ?_, ?_⟩ <;> first | assumption | exact cell_below hb2 (by assumption)))
        (first | (go_at_call 171; refine (places_any a c fs nx cp sg _ (hv1.below ?_) hl hgf hr).mono ?_; exact (Below.refl _ _).drew; rintro e w2 ⟨b2, D, rfl, ho2, hI2, hb2⟩; have hrun : (Instr.lookup 226 (.map (some b2)) (.int .i64 tag) true).run Try.prog w2 = .ok (.tuple #[.int .i64 0, .bool false]) w2 := (by have := look_any ho2 hI2 hw; rw [hi] at this; exact this)))
      clear hrun
      have hB2 : Below w.heap.size w w2 := hB1.drew.trans (hb2.mono hB1.size)
      have hv2 := hv.below hB2
      have hz2 : w.heap.size + 1 + 1 + 1 ≤ w2.heap.size := Nat.le_trans hzw hb2.size
      obtain ⟨r0, hr0, hrs⟩ := hR
      go_wp2_with (first | (go_at_call 168; refine (refuse_any a c fs nx cp sg 5 0 w2 hv2 hl hsl).mono ?_; rintro e w3 ⟨⟨a3, c3, xs3, rfl, ho3⟩, hb3⟩) | (refine wpList_store_blk (by rfl) 33 (.tmp 4) (.tmp 22) (by rfl) (w.heap.size + 1 + 1) (C6.cells ⟨fs, nx, cp, sg, 5, 0⟩ a3 c3) (by rfl) (by rfl) r0 33 ((hb3.block _ (by omega)).trans ((hb2.block _ (by show _ < w1.heap.size; omega)).trans hr0)) hrs infoC (C6.one _ _ _) ?_; intro w4 hh4 ht4))
      go_frame
      refine bodyPost_ret (v := C6.val ⟨fs, nx, cp, sg, 5, 0⟩ a3 c3) (by simp [results, Try.results121, asAddr, C6.load hh4.out]) rfl ⟨⟨a3, c3, xs3, rfl, ?_⟩, ?_⟩
      · exact (ho3.kept (fun g hg => ht4.out.block g (by have := (ho3.range hg).1; omega))).lower hB2.size
      · exact (hB2.trans (hb3.mono hB2.size)).trans (ht4.out.below (by omega))
    | some i =>
      rw [retr_some hva hi]
      have hil := fidx_lt hi
      go_enter Try.func121, Try.ntmps121
      go_wp2_with (go_at_call 65; refine (iStoreValid_any a c fs nx cp sg _ (hv.below (B3 _ _ _)) hl hs hr).mono ?_; rintro e w1 ⟨rfl, hb1⟩; obtain ⟨hc1, hf1⟩ := bcell hb1)
      have hB1 : Below w.heap.size w w1 := (B3 _ _ _).trans (hb1.mono (by simp; omega))
      have hzw : w.heap.size + 1 + 1 + 1 ≤ w1.heap.size := by have := hb1.size; simpa using this
      have q0 : w1.cell? ⟨w.heap.size, 0, none⟩ = some (.slice a fs.length c) := by rw [hc1 _ _ (by simp; omega)]; simp [go_sem]
      have q1 : w1.cell? ⟨w.heap.size, 1, none⟩ = some (.int .i64 nx) := by rw [hc1 _ _ (by simp; omega)]; simp [go_sem]
      have q2 : w1.cell? ⟨w.heap.size, 2, none⟩ = some (.int .i64 cp) := by rw [hc1 _ _ (by simp; omega)]; simp [go_sem]
      have q3 : w1.cell? ⟨w.heap.size, 3, none⟩ = some (.bool sg) := by rw [hc1 _ _ (by simp; omega)]; simp [go_sem]
      have q4 : w1.cell? ⟨w.heap.size + 1, 1, none⟩ = some (.int .i64 tag) := by rw [hc1 _ _ (by simp)]; simp [go_sem]
      have hR : ∃ r : Array Value, w1.heap[w.heap.size + 1 + 1]? = some (.cells r 33 (0, 0)) ∧ r.size = 6 := ⟨_, (hb1.block _ (by simp)).trans (new_blk _ _ _ (by simp)), rfl⟩
      clear hc1 hf1 hb1
      have hv1 := hv.below hB1
      go_region_held3 (fun w' => w'.cell? ⟨w.heap.size, 0, none⟩ = some (.slice a fs.length c) ∧ w'.cell? ⟨w.heap.size, 1, none⟩ = some (.int .i64 nx) ∧ w'.cell? ⟨w.heap.size, 2, none⟩ = some (.int .i64 cp) ∧ w'.cell? ⟨w.heap.size, 3, none⟩ = some (.bool sg) ∧ w'.cell? ⟨w.heap.size + 1, 1, none⟩ = some (.int .i64 tag))
        ((go_split_ands; refine ⟨?_, ?_, ?_, ?_, ?_⟩ <;> first | assumption | exact cell_below hb2 (by assumption)))
        (first | (go_at_call 171; refine (places_any a c fs nx cp sg _ (hv1.below ?_) hl hgf hr).mono ?_; exact (Below.refl _ _).drew; rintro e w2 ⟨b2, D, rfl, ho2, hI2, hb2⟩; have hrun : (Instr.lookup 226 (.map (some b2)) (.int .i64 tag) true).run Try.prog w2 = .ok (.tuple #[.int .i64 i, .bool true]) w2 := (by have := look_any ho2 hI2 hw; rw [hi] at this; exact this)))
      clear hrun
      have hB2 : Below w.heap.size w w2 := hB1.drew.trans (hb2.mono hB1.size)
      have hv2 := hv.below hB2
      have hz2 : w.heap.size + 1 + 1 + 1 ≤ w2.heap.size := Nat.le_trans hzw hb2.size
      obtain ⟨r0, hr0, hrs⟩ := hR
      go_split_ands
      go_wp2_with fail
      go_region_held3 (fun w' => w'.cell? ⟨w.heap.size, 0, none⟩ = some (.slice a fs.length c) ∧ w'.cell? ⟨w.heap.size, 1, none⟩ = some (.int .i64 nx) ∧ w'.cell? ⟨w.heap.size, 2, none⟩ = some (.int .i64 cp) ∧ w'.cell? ⟨w.heap.size, 3, none⟩ = some (.bool sg) ∧ w'.cell? ⟨w.heap.size + 1, 1, none⟩ = some (.int .i64 tag))
        ((go_split_ands; refine ⟨?_, ?_, ?_, ?_, ?_⟩ <;> first | ((with_reducible refine cell_set (cell_set (cell_set (cell_set (cell_set (cell_set ?_ ?_ _) ?_ _) ?_ _) ?_ _) ?_ _) ?_ _) <;> first | with_reducible assumption | (dsimp only; omega)) | with_reducible exact cell_below hb3 (by assumption) | with_reducible exact cell_drew (by assumption)))
        ((go_at_call 172; refine (without_any a c fs nx cp sg i _ (hv2.below ?_) hc hl hsl hil).mono ?_; exact (Below.refl _ _).drew; rintro e w3 ⟨⟨a3, c3, xs3, rfl, ho3⟩, hb3⟩; obtain ⟨x0, x1, x2, x3, x4, x5, y0, y1, y2, y3, y4, y5, z0, z1, z2, z3, z4, z5⟩ := six ((hb3.block (w.heap.size + 1 + 1) (by show _ < w2.heap.size; omega)).trans ((hb2.block _ (by show _ < w1.heap.size; omega)).trans hr0)) hrs))
      go_wp2
      refine bodyPost_ret (v := C6.val ⟨fs.eraseIdx i, nx, cp, sg, 0, tag⟩ a3 c3) (by simp [results, Try.results121, go_sem, C6.val, *]) rfl ⟨⟨a3, c3, xs3, rfl, ?_⟩, ?_⟩
      · exact ((((((ho3.set (by simp; omega) _).set (by simp; omega) _).set (by simp; omega) _).set (by simp; omega) _).set (by simp; omega) _).set (by simp; omega) _).lower hB2.size
      · exact ((((((hB2.drew.trans (hb3.mono hB2.size)).setCell (by simp; omega) _).setCell (by simp; omega) _).setCell (by simp; omega) _).setCell (by simp; omega) _).setCell (by simp; omega) _).setCell (by simp; omega) _
end Go.Proofs.Ytgamdkokmkagaaa

namespace Go.Proofs.Ytgamdkokmkagaaa
open Go.RowKit Go.Maps
attribute [local go_sem ↓] Go.wp_at_zero Go.wp_at_succ

def chg : List Value := [.nilFunc, .func (.func 120) #[] #[], .func (.func 121) #[] #[], .func (.func 122) #[] #[]]
theorem infoT : (Try.prog.info? 181).map (·.size) = some 4 := by kernel_rfl
theorem chg_one : ∀ v ∈ chg, v.oneCell' = true := by
  intro v hv
  simp only [chg, List.mem_cons, List.not_mem_nil, or_false] at hv
  rcases hv with rfl | rfl | rfl | rfl <;> rfl

theorem changeBy_any (k : Nat) (v : Value) (hk : k < 4) (hv : chg[k]? = some v) (w : World) : Calls Try.prog 64 #[.int .i64 k] w fun e w' => e = .returned v ∧ Below w.heap.size w w' := by
  have h0 : (0 : Int) ≤ (k : Int) := by omega
  have h1 : (k : Int) < 4 := by omega
  go_enter Try.func64, Try.ntmps64
  go_wp2_with (first | (refine wpList_store_blk (by rfl) 181 (.tmp 3) (.tmp 4) (by rfl) w.heap.size chg (by rfl) (by rfl) _ 181 (new_blk _ _ _ rfl) (by rfl) infoT chg_one ?_; intro w1 hb1 ht1; have hcell := range_blk hb1.out k v hv; rw [Nat.zero_add] at hcell) | fail)
  go_ret
  exact ⟨rfl, ((Below.refl _ _).alloc (Nat.le_refl _) _).trans (ht1.out.below (Nat.le_refl _))⟩

set_option maxRecDepth 100000 in
set_option maxHeartbeats 1600000 in
theorem iRetract_any (a : Option Addr) (c : Nat) (fs : List F) (nx cp : Int) (sg : Bool) (tag : Int) (w : World) (hv : FactsAt w a fs) (hc : fs.length ≤ c) (hl : fs.length ≤ 1048576) (hs : ∀ f ∈ fs, Sized f) (hr : ∀ f ∈ fs, Read f) (hw : (Lit.int .i64 tag).wf = true) :
    Calls Try.prog 14 #[.agg #[.slice a fs.length c, .int .i64 nx, .int .i64 cp, .bool sg], .int .i64 tag] w fun e w' =>
      (∃ a' c' xs, e = .returned ((retr fs nx cp sg tag).val a' c') ∧ OFs w' w.heap.size (.slice a' (retr fs nx cp sg tag).fs.length c') (retr fs nx cp sg tag).fs.length (retr fs nx cp sg tag).fs xs) ∧ Below w.heap.size w w' := by
  have B2 : ∀ o o', Below w.heap.size w ((w.alloc o).alloc o') := fun o o' => ((Below.refl _ _).alloc (Nat.le_refl _) _).alloc (by simp) _
  go_enter Try.func14, Try.ntmps14
  go_wp2_with fail
  go_region_held3 (fun w' => w'.cell? ⟨w.heap.size, 0, none⟩ = some (.slice a fs.length c) ∧ w'.cell? ⟨w.heap.size, 1, none⟩ = some (.int .i64 nx) ∧ w'.cell? ⟨w.heap.size, 2, none⟩ = some (.int .i64 cp) ∧ w'.cell? ⟨w.heap.size, 3, none⟩ = some (.bool sg))
    ((go_split_ands; refine ⟨?_, ?_, ?_, ?_⟩ <;> first | ((with_reducible refine cell_set (cell_set (cell_set (cell_set (cell_set (cell_set ?_ ?_ _) ?_ _) ?_ _) ?_ _) ?_ _) ?_ _) <;> first | with_reducible assumption | (dsimp only; omega)) | with_reducible exact cell_below hb2 (by assumption) | with_reducible exact cell_below hb1 (by assumption) | (simp [go_sem]; done)))
    (first | (go_at_call 64; refine (changeBy_any 2 _ (by omega) rfl _).mono ?_; rintro e w1 ⟨rfl, hb1⟩) | (go_at_call 121; refine (retract_any a c fs nx cp sg ByteArray.empty tag none 0 0 _ (hv.below ?_) hc hl hs hr hw).mono ?_; exact (B2 _ _).drew.trans (hb1.mono (by simp; omega)); rintro e w2 ⟨⟨a2, c2, xs2, rfl, ho2⟩, hb2⟩; dsimp only [C6.val]; obtain ⟨x0, x1, x2, x3, x4, x5, y0, y1, y2, y3, y4, y5, z0, z1, z2, z3, z4, z5⟩ := six (b := w.heap.size + 1) (t := 33) ((hb2.block _ (Nat.lt_of_lt_of_le (by simp) hb1.size)).trans ((hb1.block _ (by simp)).trans (new_blk _ _ _ (by simp)))) rfl) | fail)
  go_wp2
  have hB1 : Below w.heap.size w w1 := (B2 _ _).drew.trans (hb1.mono (by simp; omega))
  have hz : w.heap.size + 1 + 1 ≤ w1.heap.size := by have := hb1.size; simpa using this
  refine bodyPost_ret (v := (retr fs nx cp sg tag).val a2 c2) (by simp [results, Try.results14, go_sem, C6.val, *]) rfl ⟨⟨a2, c2, xs2, rfl, ?_⟩, ?_⟩
  · exact ((((((ho2.set (by simp; omega) _).set (by simp; omega) _).set (by simp; omega) _).set (by simp; omega) _).set (by simp; omega) _).set (by simp; omega) _).lower hB1.size
  · exact ((((((hB1.trans (hb2.mono hB1.size)).setCell (by simp) _).setCell (by simp) _).setCell (by simp) _).setCell (by simp) _).setCell (by simp) _).setCell (by simp) _
end Go.Proofs.Ytgamdkokmkagaaa
