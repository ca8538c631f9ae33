/-
  OUR OWN TEXT. The program's key of a fact: its class, how many slots, and the slots themselves, filled up to six.
-/
import Derived.Test.YtofmgaebgojonaaBlk
import Derived.Test.YtofmgaebgojonaaSpec3
import Derived.Deep.RegionHeld3
import Derived.Deep.DrawnRows
import Derived.Maps.RangeWalk
namespace Go.Proofs.Ytofmgaebgojonaa
open Go.RowKit
attribute [local go_sem ↓] Go.wp_at_zero Go.wp_at_succ

def zV : V := (0, 0, ByteArray.empty)
/-- Six values: the slots, and zero values behind them. -/
def pad (vs : List V) : List V := vs ++ List.replicate (6 - vs.length) zV
def keyOn (cls : ByteArray) (n : Nat) (vs : List V) : List Value := .string cls :: .int .i64 n :: vs.flatMap V.cells
def keyCells (f : F) : List Value := keyOn f.cls f.slots.length (pad f.slots)

theorem flat_len (vs : List V) : (vs.flatMap V.cells).length = vs.length * 3 := by
  induction vs with
  | nil => rfl
  | cons v r ih => simp [ih, V.cells]; omega
theorem flat_one (vs : List V) : ∀ x ∈ vs.flatMap V.cells, x.oneCell' = true := by
  intro x hx
  obtain ⟨v, _, hv⟩ := List.mem_flatMap.1 hx
  simp [V.cells] at hv
  rcases hv with rfl | rfl | rfl <;> rfl
theorem keyOn_len (cls : ByteArray) (n : Nat) (vs : List V) : (keyOn cls n vs).length = vs.length * 3 + 2 := by
  show (vs.flatMap V.cells).length + 1 + 1 = _
  rw [flat_len]
theorem keyOn_one (cls : ByteArray) (n : Nat) (vs : List V) : ∀ x ∈ keyOn cls n vs, x.oneCell' = true := by
  intro x hx
  simp only [keyOn, List.mem_cons] at hx
  rcases hx with rfl | rfl | hx
  · rfl
  · rfl
  · exact flat_one vs x hx
theorem pad_len (vs : List V) (h : vs.length ≤ 6) : (pad vs).length = 6 := by simp [pad]; omega
theorem key_splice (cls : ByteArray) (n : Nat) (vs : List V) (h : vs.length ≤ 6) :
    (keyOn cls n (List.replicate 6 zV)).take 2 ++ (vs.flatMap V.cells ++ (keyOn cls n (List.replicate 6 zV)).drop (2 + (vs.flatMap V.cells).length)) = keyOn cls n (pad vs) := by
  have e : ∀ k, k ≤ 6 → ((List.replicate 6 zV).flatMap V.cells).drop (k * 3) = (List.replicate (6 - k) zV).flatMap V.cells := by
    intro k hk
    rcases (show k = 0 ∨ k = 1 ∨ k = 2 ∨ k = 3 ∨ k = 4 ∨ k = 5 ∨ k = 6 by omega) with rfl | rfl | rfl | rfl | rfl | rfl | rfl <;> rfl
  rw [flat_len]
  unfold keyOn pad
  rw [List.flatMap_append, ← e vs.length h, show 2 + vs.length * 3 = vs.length * 3 + 1 + 1 by omega]
  rfl

/-- The cells of some values, one by one. -/
theorem flat_at (vs : List V) (j : Nat) (x : Value) (h : (vs.flatMap V.cells)[j]? = some x) : ∃ v, vs[j / 3]? = some v ∧ v.cells[j % 3]? = some x := by
  induction vs generalizing j with
  | nil => simp at h
  | cons v r ih =>
    rw [List.flatMap_cons] at h
    by_cases hj : j < 3
    · rw [List.getElem?_append_left (by simpa [V.cells] using hj)] at h
      refine ⟨v, ?_, ?_⟩
      · rw [show j / 3 = 0 by omega]; rfl
      · rwa [show j % 3 = j by omega]
    · rw [List.getElem?_append_right (by simp [V.cells]; omega)] at h
      obtain ⟨u, h1, h2⟩ := ih (j - v.cells.length) h
      simp only [V.cells, List.length_cons, List.length_nil] at h1 h2
      refine ⟨u, ?_, ?_⟩
      · rw [show j / 3 = (j - (0 + 1 + 1 + 1)) / 3 + 1 by omega]; exact h1
      · rwa [show j % 3 = (j - (0 + 1 + 1 + 1)) % 3 by omega]

theorem ValsAt.flat {w : World} {ad : Addr} {vs : List V} (h : ValsAt w (some ad) vs) (j : Nat) (x : Value) (hx : (vs.flatMap V.cells)[j]? = some x) : w.cell? (ad.add j) = some x := by
  obtain ⟨v, hv, hc⟩ := flat_at vs j x hx
  obtain ⟨b, o, he, h0, h1, h2⟩ := h _ v hv
  cases he
  have hadd : (⟨b, o, none⟩ : Addr).add j = ⟨b, o + j, none⟩ := Addr.add_mid b o j
  rw [hadd]
  rcases (show j % 3 = 0 ∨ j % 3 = 1 ∨ j % 3 = 2 by omega) with e | e | e <;> rw [e] at hc <;> simp [V.cells] at hc <;> subst hc
  · rw [show o + j = o + j / 3 * 3 by omega]; exact h0
  · rw [show o + j = o + j / 3 * 3 + 1 by omega]; exact h1
  · rw [show o + j = o + j / 3 * 3 + 2 by omega]; exact h2

theorem ValsAt.nil {w : World} {vs : List V} (h : ValsAt w none vs) : vs.length = 0 := by
  cases vs with
  | nil => rfl
  | cons v r =>
    obtain ⟨b, o, he, _⟩ := h 0 v rfl
    cases he

theorem new_blk (w : World) (o : Obj) (n : Nat) (h : w.heap.size = n) : (w.alloc o).heap[n]? = some o := by
  subst h
  exact heap_alloc_new _ _

theorem infoK : (Try.prog.info? 215).map (·.size) = some 20 := by kernel_rfl
theorem sizeV : (Try.prog.info? 119).map (·.size) = some 3 := by kernel_rfl

set_option maxHeartbeats 1000000 in
theorem key_any (f : F) (a : Option Addr) (c : Nat) (w : World) (hv : ValsAt w a f.slots) (hl : f.slots.length ≤ 6) :
    Calls Try.prog 155 #[.agg #[.int .i64 f.tag, .string f.cls, .slice a f.slots.length c]] w fun e w' =>
      e = .returned (.agg (keyCells f).toArray) ∧ Below w.heap.size w w' := by
  go_enter Try.func155, Try.ntmps155
  go_wp2_with (refine wpList_store_blk (by rfl) 215 (.tmp 3) (.tmp 9) (by rfl) (w.heap.size + 1 + 1) (keyOn f.cls f.slots.length (List.replicate 6 zV)) (by rfl) (by rfl) _ 215 (new_blk _ _ _ (by simp)) (by rfl) (by rw [keyOn_len]; exact infoK) (keyOn_one _ _ _) ?_; intro w1 hb1 ht1)
  go_frame
  have T1 := ht1.out
  have q2 : w1.cell? ⟨w.heap.size, 2, none⟩ = some (.slice a f.slots.length c) := by rw [T1.cell (by simp; omega)]; simp [go_sem]
  obtain ⟨c0, R0, hc0⟩ : ∃ c0 : Array Value, w1.heap[w.heap.size + 1]? = some (.cells c0 215 (0, 0)) ∧ c0.size = 20 :=
    ⟨_, (T1.block _ (by omega)).trans ((Below.heap_alloc _ _ _ (by simp)).trans (new_blk _ _ _ (by simp))), rfl⟩
  have R1 : Hid (w1.heap[w.heap.size + 1]? = some (.cells c0 215 (0, 0))) := R0
  have HC : Hid (c0.size = 20) := hc0
  clear R0 hc0
  have B1 : Below w.heap.size w w1 := ((((Below.refl _ _).alloc (Nat.le_refl _) _).alloc (by simp) _).alloc (by simp; omega) _).trans (T1.below (by omega))
  have hv1 := hv.below B1
  have hz1 : w1.heap.size = w.heap.size + 1 + 1 + 1 := by rw [T1.size]; simp
  have HZ : Hid (w1.heap.size = w.heap.size + 1 + 1 + 1) := hz1
  clear hz1 ht1 T1 hv
  have hmin : Nat.min f.slots.length 6 = f.slots.length := by simp [Nat.min_def]; omega
  have HM : Hid (Nat.min f.slots.length 6 = f.slots.length) := hmin
  clear hmin
  go_region_held3 (fun w' => w'.cell? ⟨w.heap.size, 2, none⟩ = some (.slice a f.slots.length c)) ((first | (simp [*]; done) | (rw [ht2.out.cell (by simp; omega)]; simp [*])))
    ((refine step_copy_blk (by rfl) (.tmp 11) (.tmp 13) 38 38 (by rfl) 119 3 Try.underlying38 sizeV (w.heap.size + 1 + 1) 2 6 6 a f.slots.length c (by rfl) (by rfl) _ 215 hb1.out (f.slots.flatMap V.cells) (by rw [HM.out, flat_len]) (fun e => ValsAt.nil (e ▸ hv1)) (fun ad e => ValsAt.flat (e ▸ hv1)) (by rw [flat_len]; simp [keyOn_len]; omega) (flat_one _) ?_; intro w2 hb2 ht2))
  have hk : w2.heap[w.heap.size + 1 + 1]? = some (.cells (keyCells f).toArray 215 (0, 0)) := by
    have := hb2.out
    rw [List.toList_toArray, key_splice _ _ _ hl] at this
    exact this
  have T2 := ht2.out
  have R2 : w2.heap[w.heap.size + 1]? = some (.cells c0 215 (0, 0)) := (T2.block _ (by omega)).trans R1.out
  have hlen : (keyCells f).length = 20 := by unfold keyCells; rw [keyOn_len, pad_len _ hl]
  have B2 : Below w.heap.size w w2 := B1.drew.trans (T2.below (by omega))
  have HK : Hid (w2.heap[w.heap.size + 1 + 1]? = some (.cells (keyCells f).toArray 215 (0, 0))) := hk
  have HR : Hid (w2.heap[w.heap.size + 1]? = some (.cells c0 215 (0, 0))) := R2
  have HL : Hid ((keyCells f).length = 20) := hlen
  clear hb2 ht2 T2 hk R2 hlen R1 hb1 q2
  go_wp2_with (first | (refine wpList_load_blk (by rfl) 215 (.tmp 3) (by rfl) (w.heap.size + 1 + 1) (keyCells f) (by rfl) 215 (0, 0) HK.out _ Try.underlying215 (by rfl) (by rw [HL.out]; exact infoK) ?_) | (refine wpList_store_blk (by rfl) 215 (.tmp 2) (.tmp 15) (by rfl) (w.heap.size + 1) (keyCells f) (by rfl) (by rfl) c0 215 HR.out (by rw [HL.out]; exact HC.out) (by rw [HL.out]; exact infoK) (keyOn_one _ _ _) ?_; intro w3 hb3 ht3))
  have hld := run_loadVar_mid (P := Try.prog) w3 (w.heap.size + 1) 0 215 (keyCells f) _ (range_blk hb3.out) Try.underlying215 rfl (by rw [HL.out]; exact infoK)
  go_frame
  exact bodyPost_ret (v := .agg (keyCells f).toArray) (by simp [results, Try.results155, asAddr, hld]) rfl ⟨rfl, B2.trans (ht3.out.below (by omega))⟩
end Go.Proofs.Ytofmgaebgojonaa
