/-
  OUR OWN TEXT. The laws' own marks: the text of a number.
-/
import Derived.Test.YtdhpoagjmiligaaGreatDoorKak
import Derived.Laws.BytesArg
namespace Go.Proofs.YtdhpoagjmiligaaGreatDoor
open Go.RowKit

/-- One digit's text, as the conversion tells it. -/
def dg (q : Int) : ByteArray := strOfNums [48 + q % 10]
theorem dg_size (q : Int) : (dg q).size = 1 := by
  simp [dg, strOfNums]
  rfl
def dgs : Nat → Int → ByteArray → ByteArray
  | 0, _, t => t
  | f + 1, q, t => if 0 < q then dgs f (q / 10) (dg q ++ t) else t
theorem dgs_stop (f : Nat) (q : Int) (t : ByteArray) (h : ¬ 0 < q) : dgs f q t = t := by
  cases f with
  | zero => rfl
  | succ f => simp [dgs, h]
def mText (k : Int) : ByteArray := ⟨#[109]⟩ ++ dgs 20 k ⟨#[]⟩

theorem run_digit (q : Int) (w : World) : (convert 22 9 (.slice (some ⟨w.heap.size, 0, none⟩) 1 1)).run Tryz.prog (w.alloc (.cells #[.int .u8 (48 + q % 10)] 5)) = .ok (.string (dg q)) (w.alloc (.cells #[.int .u8 (48 + q % 10)] 5)) :=
  run_convert_bytes_arg (P := Tryz.prog) _ 22 5 Tryz.underlying22 Tryz.underlying5 w.heap.size 0 1 1 [48 + q % 10] rfl (fun i hi => by
    obtain rfl : i = 0 := by omega
    simp [go_sem]) 9 Tryz.underlying9

set_option maxRecDepth 100000 in
set_option maxHeartbeats 400000 in
theorem markText_any (k : Int) (w : World) (hk : 0 < k) (hk' : k ≤ 100000000) :
    Calls Tryz.prog 52 #[.int .i64 k] w fun e w' => e = .returned (.string (mText k)) ∧ Below w.heap.size w w' := by
  go_enter Tryz.func52, Tryz.ntmps52
  go_wp2
  go_loopw [0, 3] (fun i s wr => ∃ (q : Int) (t : ByteArray) (f : Nat), 0 ≤ q ∧ q ≤ k ∧ q < 10 ^ f ∧ f ≤ 20 ∧ i = .int .i64 q ∧ s = .string t ∧ t.size + f = 20 ∧ dgs 20 k ⟨#[]⟩ = dgs f q t ∧ Below w.heap.size w wr) (fun i _ _ => (intOf i).toNat)
  case atStart => exact ⟨k, _, 20, by omega, by omega, by omega, by omega, rfl, rfl, rfl, rfl, Below.refl _ _⟩
  case round =>
    obtain ⟨q, t, f, hq0, hq1, hqf, hf, rfl, rfl, ht, hd, hb⟩ := hrel
    have HD : Hid (dgs 20 k ⟨#[]⟩ = dgs f q t) := hd
    have HF : Hid (q < 10 ^ f) := hqf
    have HT : Hid (t.size + f = 20) := ht
    have hts : t.size ≤ 20 := by omega
    clear hd hqf ht
    by_cases hlt : 0 < q
    · have hcv := run_digit q wr
      have hds := dg_size q
      go_wp2
      go_roundw
      case rel =>
        cases f with
        | zero =>
          have := HF.out
          simp at this
          omega
        | succ f =>
          have h1 := HF.out
          have h2 := HT.out
          refine ⟨q / 10, _, f, by omega, by omega, ?_, by omega, rfl, rfl, ?_, ?_, hb.alloc hb.size _⟩
          · rw [Int.pow_succ] at h1
            omega
          · rw [ByteArray.size_append']
            omega
          · rw [HD.out, dgs, if_pos hlt]
      case measure => simp [intOf]; omega
    · go_wp2
      go_ret
      refine ⟨?_, hb⟩
      unfold mText
      rw [HD.out, dgs_stop _ _ _ (by omega)]
      rfl
end Go.Proofs.YtdhpoagjmiligaaGreatDoor
