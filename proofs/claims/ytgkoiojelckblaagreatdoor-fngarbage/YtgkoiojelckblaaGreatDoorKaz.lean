/-
  OUR OWN TEXT. RdS, Sx3, Sx4, Sx5, Sx6, Sx7, Yc1, one behind the other.
-/
import Derived.Test.YtgkoiojelckblaaGreatDoorKag
import Derived.Test.YtgkoiojelckblaaGreatDoorKau
import Derived.Test.YtgkoiojelckblaaGreatDoorSc2m
import Derived.Test.YtgkoiojelckblaaGreatDoorKar
import Derived.Deep.DeepCutAuto
import Derived.Test.YtgkoiojelckblaaGreatDoorOgm
import Derived.Test.YtgkoiojelckblaaGreatDoorHwm
import Derived.Test.YtgkoiojelckblaaGreatDoorKas
import Derived.Test.YtgkoiojelckblaaGreatDoorShgm
namespace Go.Proofs.YtgkoiojelckblaaGreatDoor
open Go.RowKit Go.Deep

theorem cellsU8s : Tryz.prog.cellsOf 5 = 1 := by kernel_rfl
theorem wfU8s {a : Int} (h : (Lit.int .u8 a).wf = true) : 0 ≤ a ∧ a < 256 := by
  have h0 : IntKind.u8.min = 0 := rfl
  have h1 : IntKind.u8.max = 255 := rfl
  simp [Lit.wf] at h
  omega
section
variable {H : Type} {enc : TypeId × Value → H} {w : World} {base : Nat} {spare : Nat → Bool} {held : Bool}
theorem rd_text {n : Nat} {cs : List Value} {x : DataW H × List MemPlace} (h : DataW.trod enc Tryz.prog w base spare held n 22 cs = some x) : ∃ a c, ∃ l : Bs, cs = [.slice a l.length c] ∧ BysAt w a l ∧ l.length ≤ maxLen := by
  obtain ⟨a, c, vs, e, hR, _, hm, _⟩ := rd_rows (R := fun _ r (u : UInt8) => r = [.int .u8 (u.toNat : Int)]) (Ok := fun _ => True) (0 : UInt8) 22 5 5 1 Tryz.underlying22 cellsU8s (by omega) (fun n cs x h hc => by
    match cs, hc with
    | [v0], _ =>
      obtain ⟨k, e0, _, wf0⟩ := DataW.trod_int Tryz.underlying5 h
      obtain ⟨h1, h2⟩ := wfU8s wf0
      refine ⟨UInt8.ofNat k.toNat, ?_, trivial⟩
      have : (UInt8.ofNat k.toNat).toNat = k.toNat := by
        simp
        omega
      rw [e0, this, Int.toNat_of_nonneg h1]) h
  refine ⟨a, c, vs, e, fun j y hy => ?_, hm⟩
  obtain ⟨b, o, r, e1, _, _, hc, hr⟩ := hR j y hy
  have h0 := hc 0 _ (by rw [hr]; rfl)
  refine ⟨b, o, e1, ?_, ?_⟩
  · exact World.block_lt_of_cell? w ⟨b, _, none⟩ h0
  · simpa using h0
end
end Go.Proofs.YtgkoiojelckblaaGreatDoor

namespace Go.Proofs.YtgkoiojelckblaaGreatDoor
open Go.RowKit
attribute [local go_sem ↓] Go.wp_at_zero Go.wp_at_succ

def arTx : List Bs := [[43], [45], [42], [47], [37]]
def isVarW (s : Bs) : Bool := decide (s.head? = some 63) && gSym s.tail
def isOtherW (s : Bs) : Bool := decide (s = [95]) || (decide (s = [61, 62]) || (decide (s ∈ opTx) || decide (s ∈ arTx)))
/-- A word's kind, as the model counts it. -/
def mkind (s : Bs) : Int := if (numOf s).isSome then 3 else if isVarW s then 4 else if gSym s then 5 else if isOtherW s then 6 else 8
def mnum (s : Bs) : Int := (numOf s).getD 0
theorem StrsAt.of {w : World} {g o : Nat} {l : List Bs} (h : ∀ (j : Nat) x, l[j]? = some x → w.cell? ⟨g, o + j, none⟩ = some (.string (mkS x))) : StrsAt none w (some ⟨g, o, none⟩) (l.map mkS) := by
  intro i x hx
  rw [List.getElem?_map] at hx
  obtain ⟨y, hy, rfl⟩ := Option.map_eq_some_iff.1 hx
  refine ⟨g, o, [.string (mkS y)], rfl, Qb.bare _ _ _, rfl, ?_, rfl⟩
  intro j v hj
  have hj0 : j = 0 := by
    have := (List.getElem?_eq_some_iff.1 hj).1
    simp at this
    exact this
  subst hj0
  simp at hj
  subst hj
  simpa using h i y hy
theorem beq_lit (s : ByteArray) (l : Bs) : (s.toList == l) = decide (bsOf s = l) := by
  rw [ByteArray.toList_eq]
  by_cases h : bsOf s = l
  · rw [decide_eq_true h]
    exact beq_iff_eq.2 h
  · rw [decide_eq_false h]
    exact beq_eq_false_iff_ne.2 h

theorem IPost.got {s : Bs} {w w' : World} {e : Ending} {n : Int} (h : IPost s w e w') (hn : numOf s = some n) : e = .returned (.tuple #[.int .i64 n, .bool true]) ∧ Below w.heap.size w w' := by
  obtain ⟨m, b, rfl, hmb, hb⟩ := h
  rw [hn] at hmb
  cases b with
  | true =>
    have : n = m := by simpa using hmb
    subst this
    exact ⟨rfl, hb⟩
  | false => cases hmb
theorem IPost.not {s : Bs} {w w' : World} {e : Ending} (h : IPost s w e w') (hn : numOf s = none) : ∃ m, e = .returned (.tuple #[.int .i64 m, .bool false]) ∧ Below w.heap.size w w' := by
  obtain ⟨m, b, rfl, hmb, hb⟩ := h
  rw [hn] at hmb
  cases b with
  | true => cases hmb
  | false => exact ⟨m, rfl, hb⟩

end Go.Proofs.YtgkoiojelckblaaGreatDoor

namespace Go.Proofs.YtgkoiojelckblaaGreatDoor

/-- A word as the model tells it. -/
structure Wd where
  kind : Int
  pos : Nat
  text : Bs
  num : Int
def blankB (b : UInt8) : Bool := decide (b = 32) || (decide (b = 9) || (decide (b = 10) || decide (b = 13)))
def wordB (b : UInt8) : Bool := decide (32 < b.toNat) && (decide (b.toNat < 127) && (decide (b ≠ 40) && (decide (b ≠ 41) && decide (b ≠ 59))))
def lineP (b : UInt8) : Bool := decide (b ≠ 10)
def runOf (p : UInt8 → Bool) (l : Bs) : Nat := (l.takeWhile p).length
def wordsGo : Nat → Bs → Nat → List Wd
  | 0, _, _ => []
  | _ + 1, [], k => [⟨0, k, [], 0⟩]
  | n + 1, b :: r, k =>
    if blankB b then wordsGo n r (k + 1)
    else if b = 59 then wordsGo n ((b :: r).drop (runOf lineP (b :: r))) (k + runOf lineP (b :: r))
    else if b = 40 then ⟨1, k, [], 0⟩ :: wordsGo n r (k + 1)
    else if b = 41 then ⟨2, k, [], 0⟩ :: wordsGo n r (k + 1)
    else if b.toNat < 33 ∨ 126 < b.toNat then ⟨7, k, [], 0⟩ :: wordsGo n r (k + 1)
    else ⟨mkind ((b :: r).takeWhile wordB), k, (b :: r).takeWhile wordB, mnum ((b :: r).takeWhile wordB)⟩ :: wordsGo n ((b :: r).drop (runOf wordB (b :: r))) (k + runOf wordB (b :: r))
def wordsAt (s : Bs) (k : Nat) : List Wd := wordsGo (s.length + 1 - k) (s.drop k) k
def wordsOf (s : Bs) : List Wd := wordsAt s 0

theorem run_pos {p : UInt8 → Bool} {b : UInt8} {r : Bs} (h : p b = true) : 1 ≤ runOf p (b :: r) := by
  unfold runOf
  rw [List.takeWhile_cons, if_pos h]
  simp
theorem run_le (p : UInt8 → Bool) (l : Bs) : runOf p l ≤ l.length := List.Sublist.length_le (List.takeWhile_sublist p)
theorem line59 : lineP 59 = true := by decide
theorem wordB_of {b : UInt8} (h1 : ¬ b = 59) (h2 : ¬ b = 40) (h3 : ¬ b = 41) (h4 : ¬ (b.toNat < 33 ∨ 126 < b.toNat)) : wordB b = true := by
  unfold wordB
  simp [h1, h2, h3]
  omega
theorem wordsGo_fuel : ∀ (n m : Nat) (l : Bs) (k : Nat), l.length < n → l.length < m → wordsGo n l k = wordsGo m l k := by
  intro n
  induction n with
  | zero => intro m l k h; omega
  | succ n ih =>
    intro m l k hn hm
    obtain ⟨m, rfl⟩ : ∃ m', m = m' + 1 := ⟨m - 1, by omega⟩
    cases l with
    | nil => rfl
    | cons b r =>
      have hr : r.length < n ∧ r.length < m := by simp at hn hm; omega
      unfold wordsGo
      by_cases h1 : blankB b = true
      · rw [if_pos h1, if_pos h1]
        exact ih m r _ hr.1 hr.2
      · rw [if_neg h1, if_neg h1]
        by_cases h2 : b = 59
        · rw [if_pos h2, if_pos h2]
          have hp : 1 ≤ runOf lineP (b :: r) := run_pos (by rw [h2]; exact line59)
          exact ih m _ _ (by rw [List.length_drop]; simp only [List.length_cons] at *; omega) (by rw [List.length_drop]; simp only [List.length_cons] at *; omega)
        · rw [if_neg h2, if_neg h2]
          by_cases h3 : b = 40
          · rw [if_pos h3, if_pos h3, ih m r _ hr.1 hr.2]
          · rw [if_neg h3, if_neg h3]
            by_cases h4 : b = 41
            · rw [if_pos h4, if_pos h4, ih m r _ hr.1 hr.2]
            · rw [if_neg h4, if_neg h4]
              by_cases h5 : b.toNat < 33 ∨ 126 < b.toNat
              · rw [if_pos h5, if_pos h5, ih m r _ hr.1 hr.2]
              · rw [if_neg h5, if_neg h5]
                have hp : 1 ≤ runOf wordB (b :: r) := run_pos (wordB_of h2 h3 h4 h5)
                rw [ih m _ _ (by rw [List.length_drop]; simp only [List.length_cons] at *; omega) (by rw [List.length_drop]; simp only [List.length_cons] at *; omega)]
theorem wordsAt_go (s : Bs) (k n : Nat) (hk : k ≤ s.length) (hn : s.length - k < n) : wordsGo n (s.drop k) k = wordsAt s k :=
  wordsGo_fuel _ _ _ _ (by rw [List.length_drop]; exact hn) (by rw [List.length_drop]; omega)
theorem wordsAt_end (s : Bs) : wordsAt s s.length = [⟨0, s.length, [], 0⟩] := by
  unfold wordsAt
  rw [List.drop_length, show s.length + 1 - s.length = 0 + 1 by omega]
  rfl
/-- One step. -/
theorem wordsAt_step {s : Bs} {k : Nat} {b : UInt8} (hb : s[k]? = some b) : wordsAt s k =
    if blankB b then wordsAt s (k + 1)
    else if b = 59 then wordsAt s (k + runOf lineP (s.drop k))
    else if b = 40 then ⟨1, k, [], 0⟩ :: wordsAt s (k + 1)
    else if b = 41 then ⟨2, k, [], 0⟩ :: wordsAt s (k + 1)
    else if b.toNat < 33 ∨ 126 < b.toNat then ⟨7, k, [], 0⟩ :: wordsAt s (k + 1)
    else ⟨mkind ((s.drop k).takeWhile wordB), k, (s.drop k).takeWhile wordB, mnum ((s.drop k).takeWhile wordB)⟩ :: wordsAt s (k + runOf wordB (s.drop k)) := by
  have hk : k < s.length := (List.getElem?_eq_some_iff.1 hb).1
  have hd : s.drop k = b :: s.drop (k + 1) := drop_cons hb
  have h0 : wordsAt s k = wordsGo (s.length - k + 1) (b :: s.drop (k + 1)) k := by
    rw [← wordsAt_go s k (s.length - k + 1) (by omega) (by omega), hd]
  have e1 : wordsGo (s.length - k) (s.drop (k + 1)) (k + 1) = wordsAt s (k + 1) := wordsAt_go s (k + 1) _ (by omega) (by omega)
  have e2 : ∀ p, 1 ≤ runOf p (s.drop k) → wordsGo (s.length - k) ((s.drop k).drop (runOf p (s.drop k))) (k + runOf p (s.drop k)) = wordsAt s (k + runOf p (s.drop k)) := fun p hp => by
    have hl := run_le p (s.drop k)
    rw [List.length_drop] at hl
    rw [List.drop_drop]
    exact wordsAt_go s _ _ (by omega) (by omega)
  rw [h0]
  unfold wordsGo
  rw [← hd, e1]
  by_cases h1 : blankB b = true
  · rw [if_pos h1, if_pos h1]
  · rw [if_neg h1, if_neg h1]
    by_cases h2 : b = 59
    · rw [if_pos h2, if_pos h2, e2 lineP (by rw [hd, h2]; exact run_pos line59)]
    · rw [if_neg h2, if_neg h2]
      by_cases h3 : b = 40
      · rw [if_pos h3, if_pos h3]
      · rw [if_neg h3, if_neg h3]
        by_cases h4 : b = 41
        · rw [if_pos h4, if_pos h4]
        · rw [if_neg h4, if_neg h4]
          by_cases h5 : b.toNat < 33 ∨ 126 < b.toNat
          · rw [if_pos h5, if_pos h5]
          · rw [if_neg h5, if_neg h5, e2 wordB (by rw [hd]; exact run_pos (wordB_of h2 h3 h4 h5))]
/-- How far a run goes. -/
theorem run_eq {p : UInt8 → Bool} : ∀ {l : Bs} {n : Nat}, n ≤ l.length → (∀ i b, i < n → l[i]? = some b → p b = true) → (∀ b, l[n]? = some b → p b = false) → l.takeWhile p = l.take n
  | [], n, hn, _, _ => by
    obtain rfl : n = 0 := by simpa using hn
    rfl
  | b :: r, 0, _, _, h2 => by
    have := h2 b rfl
    rw [List.takeWhile_cons, if_neg (by simp [this])]
    rfl
  | b :: r, n + 1, hn, h1, h2 => by
    have hb := h1 0 b (by omega) rfl
    rw [List.takeWhile_cons, if_pos hb, List.take_succ_cons, run_eq (l := r) (n := n) (by simpa using hn) (fun i c hi hc => h1 (i + 1) c (by omega) (by simpa using hc)) (fun c hc => h2 c (by simpa using hc))]
theorem run_at {p : UInt8 → Bool} {s : Bs} {k j : Nat} (hkj : k ≤ j) (hj : j ≤ s.length) (h1 : ∀ i b, k ≤ i → i < j → s[i]? = some b → p b = true) (h2 : ∀ b, s[j]? = some b → p b = false) : (s.drop k).takeWhile p = (s.drop k).take (j - k) ∧ k + runOf p (s.drop k) = j := by
  have e : (s.drop k).takeWhile p = (s.drop k).take (j - k) := run_eq (by rw [List.length_drop]; omega) (fun i b hi hb => h1 (k + i) b (by omega) (by omega) (by rw [List.getElem?_drop] at hb; exact hb)) (fun b hb => h2 b (by rw [List.getElem?_drop, show k + (j - k) = j by omega] at hb; exact hb))
  refine ⟨e, ?_⟩
  unfold runOf
  rw [e, List.length_take, List.length_drop]
  omega
end Go.Proofs.YtgkoiojelckblaaGreatDoor

namespace Go.Proofs.YtgkoiojelckblaaGreatDoor
open Go.RowKit
attribute [local go_sem ↓] Go.wp_at_zero Go.wp_at_succ

def wdV (x : Wd) : List Value := [.int .i64 x.kind, .int .i64 (x.pos : Int), .string (mkS x.text), .int .i64 x.num]
theorem byteN {b c : UInt8} : ((b.toNat : Int) = (c.toNat : Int)) ↔ b = c := by
  constructor
  · intro h
    exact UInt8.toNat_inj.1 (by omega)
  · rintro rfl
    rfl
theorem beqF {a b : Int} (h : ¬ a = b) : (a == b) = false := by simpa using h
theorem blank_int (b : UInt8) : blankB b = true ↔ ((b.toNat : Int) = 32 ∨ (b.toNat : Int) = 9 ∨ (b.toNat : Int) = 10 ∨ (b.toNat : Int) = 13) := by
  unfold blankB
  simp only [Bool.or_eq_true, decide_eq_true_eq]
  have e32 := byteN (b := b) (c := 32)
  have e9 := byteN (b := b) (c := 9)
  have e10 := byteN (b := b) (c := 10)
  have e13 := byteN (b := b) (c := 13)
  have c32 : ((32 : UInt8).toNat : Int) = 32 := rfl
  have c9 : ((9 : UInt8).toNat : Int) = 9 := rfl
  have c10 : ((10 : UInt8).toNat : Int) = 10 := rfl
  have c13 : ((13 : UInt8).toNat : Int) = 13 := rfl
  rw [c32] at e32
  rw [c9] at e9
  rw [c10] at e10
  rw [c13] at e13
  rw [e32, e9, e10, e13]
theorem word_int (b : UInt8) : wordB b = true ↔ ((32 : Int) < (b.toNat : Int) ∧ (b.toNat : Int) < 127 ∧ ¬ (b.toNat : Int) = 40 ∧ ¬ (b.toNat : Int) = 41 ∧ ¬ (b.toNat : Int) = 59) := by
  unfold wordB
  simp only [Bool.and_eq_true, decide_eq_true_eq]
  have e40 := byteN (b := b) (c := 40)
  have e41 := byteN (b := b) (c := 41)
  have e59 := byteN (b := b) (c := 59)
  have c40 : ((40 : UInt8).toNat : Int) = 40 := rfl
  have c41 : ((41 : UInt8).toNat : Int) = 41 := rfl
  have c59 : ((59 : UInt8).toNat : Int) = 59 := rfl
  rw [c40] at e40
  rw [c41] at e41
  rw [c59] at e59
  rw [e40, e41, e59]
  constructor
  · rintro ⟨h1, h2, h3⟩
    exact ⟨by omega, by omega, h3⟩
  · rintro ⟨h1, h2, h3⟩
    exact ⟨by omega, by omega, h3⟩
theorem conv_word (src : Bs) (w : World) (b o c k j : Nat) (hv : BysAt w (some ⟨b, o, none⟩) src) (hkj : k ≤ j) (hj : j ≤ src.length) : (convert 22 9 (.slice (some ⟨b, o + k, none⟩) (j - k) c)).run Tryz.prog w = .ok (.string (mkS ((src.drop k).take (j - k)))) w := by
  have hl : ((src.drop k).take (j - k)).length = j - k := by rw [List.length_take, List.length_drop]; omega
  have h := run_convert_bytes_arg (P := Tryz.prog) w 22 5 Tryz.underlying22 Tryz.underlying5 b (o + k) (j - k) c (((src.drop k).take (j - k)).map fun x => (x.toNat : Int)) (by rw [List.length_map, hl]) (fun i hi => by
    have hi' : i < j - k := by simpa [hl] using hi
    have hx : src[k + i]? = some (src[k + i]'(by omega)) := by simp
    obtain ⟨b', o', e, _, hc⟩ := hv (k + i) _ hx
    simp only [Option.some.injEq, Addr.mk.injEq, and_true] at e
    obtain ⟨rfl, rfl⟩ := e
    rw [Nat.add_assoc, hc]
    simp [hi']
    rw [hx]
    rfl) 9 Tryz.underlying9
  rw [h]
  have e1 : (((src.drop k).take (j - k)).map fun x => (x.toNat : Int)).map (fun n => UInt8.ofNat n.toNat) = (src.drop k).take (j - k) := by
    rw [List.map_map]
    exact List.map_id'' (fun x => by simp) _
  unfold strOfNums
  rw [e1]
  rfl
end Go.Proofs.YtgkoiojelckblaaGreatDoor

namespace Go.Proofs.YtgkoiojelckblaaGreatDoor
open Go.RowKit
attribute [local go_sem ↓] Go.wp_at_zero Go.wp_at_succ

set_option maxHeartbeats 800000 in
theorem isBlank_any (b : UInt8) (w : World) : Calls Tryz.prog 214 #[.int .u8 (b.toNat : Int)] w fun e w' => e = .returned (.bool (blankB b)) ∧ w' = w := by
  have hbi := blank_int b
  by_cases h : blankB b = true
  · have HB := hidX h
    rcases hbi.1 h with h1 | h1 | h1 | h1
    all_goals
      clear hbi h
      rw [h1]
      go_enter Tryz.func214, Tryz.ntmps214
      go_wp2
      go_ret
      exact ⟨by rw [HB.out]; rfl, rfl⟩
  · have nb : ¬ ((b.toNat : Int) = 32 ∨ (b.toNat : Int) = 9 ∨ (b.toNat : Int) = 10 ∨ (b.toNat : Int) = 13) := fun g => h (hbi.2 g)
    have n1 : ((b.toNat : Int) == 32) = false := beqF fun h => nb (.inl h)
    have n2 : ((b.toNat : Int) == 9) = false := beqF fun h => nb (.inr (.inl h))
    have n3 : ((b.toNat : Int) == 10) = false := beqF fun h => nb (.inr (.inr (.inl h)))
    have n4 : ((b.toNat : Int) == 13) = false := beqF fun h => nb (.inr (.inr (.inr h)))
    have HB : Hid (blankB b = false) := show _ = _ from by simpa using h
    clear hbi nb h
    go_enter Tryz.func214, Tryz.ntmps214
    go_wp2
    go_ret
    exact ⟨by rw [HB.out]; rfl, rfl⟩
set_option maxHeartbeats 800000 in
theorem inWord_any (b : UInt8) (w : World) : Calls Tryz.prog 160 #[.int .u8 (b.toNat : Int)] w fun e w' => e = .returned (.bool (wordB b)) ∧ w' = w := by
  have hwi := word_int b
  by_cases h : wordB b = true
  · obtain ⟨q1, q2', q3, q4, q5⟩ := hwi.1 h
    have q2 : (b.toNat : Int) ≤ 126 := by omega
    have HB := hidX h
    have r3' : ((b.toNat : Int) != 40) = true := by simpa using q3
    have r4' : ((b.toNat : Int) != 41) = true := by simpa using q4
    have r5' : ((b.toNat : Int) != 59) = true := by simpa using q5
    clear hwi h q2' q3 q4 q5
    go_enter Tryz.func160, Tryz.ntmps160
    go_wp2
    go_ret
    exact ⟨by rw [HB.out]; rfl, rfl⟩
  · have hq : ¬ (32 : Int) < (b.toNat : Int) ∨ ((32 : Int) < (b.toNat : Int) ∧ ¬ (b.toNat : Int) ≤ 126) ∨ (b.toNat : Int) = 40 ∨ (b.toNat : Int) = 41 ∨ (b.toNat : Int) = 59 := by
      have hnw : ¬ ((32 : Int) < (b.toNat : Int) ∧ (b.toNat : Int) < 127 ∧ ¬ (b.toNat : Int) = 40 ∧ ¬ (b.toNat : Int) = 41 ∧ ¬ (b.toNat : Int) = 59) := fun g => h (hwi.2 g)
      omega
    have HB : Hid (wordB b = false) := show _ = _ from by simpa using h
    clear hwi h
    rcases hq with q1 | ⟨q1, q2⟩ | q3 | q3 | q3
    all_goals
      try (rw [q3]; clear q3)
      go_enter Tryz.func160, Tryz.ntmps160
      go_wp2
      go_ret
      exact ⟨by rw [HB.out]; rfl, rfl⟩
theorem isAr_mem (b : UInt8) : isAr (b.toNat : Int) = decide ([b] ∈ arTx) := by
  have key : ∀ n : Fin 256, isAr ((n.val : Nat) : Int) = decide ([UInt8.ofNat n.val] ∈ arTx) := by decide +kernel
  have h := key ⟨b.toNat, UInt8.toNat_lt b⟩
  simpa using h
/-- Which test a text is. -/
def testIx (s : Bs) : Nat := if s = [61] then 1 else if s = [33, 61] then 2 else if s = [60] then 3 else if s = [62] then 4 else if s = [60, 61] then 5 else if s = [62, 61] then 6 else 0
theorem testIx_hit {t : Bs} {n : Nat} (h1 : 1 ≤ n) (h2 : n ≤ 6) (h : opTx.getD (n - 1) [] = t) : testIx t = n := by
  subst h
  rcases (show n = 1 ∨ n = 2 ∨ n = 3 ∨ n = 4 ∨ n = 5 ∨ n = 6 by omega) with rfl | rfl | rfl | rfl | rfl | rfl <;> rfl
theorem testIx_none {t : Bs} (h : ∀ j, j < 6 → ¬ opTx.getD j [] = t) : testIx t = 0 := by
  have h0 := h 0 (by decide)
  have h1 := h 1 (by decide)
  have h2 := h 2 (by decide)
  have h3 := h 3 (by decide)
  have h4 := h 4 (by decide)
  have h5 := h 5 (by decide)
  unfold testIx
  rw [if_neg fun e => h0 e.symm, if_neg fun e => h1 e.symm, if_neg fun e => h2 e.symm, if_neg fun e => h3 e.symm, if_neg fun e => h4 e.symm, if_neg fun e => h5 e.symm]
theorem str_beq (a b : Bs) : ((mkS a).toList == (mkS b).toList) = decide (a = b) := by
  have h : (mkS b).toList = b := by rw [ByteArray.toList_eq]; rfl
  rw [h, beq_lit, bs_mkS]
set_option maxHeartbeats 1600000 in
theorem testOf_any (t : Bs) (w : World) (hT : TestsAt w 1 1) : Calls Tryz.prog 218 #[.string (mkS t)] w fun e w' => e = .returned (.int .i64 (testIx t : Int)) ∧ w' = w := by
  have HT := hidX hT
  clear hT
  go_enter Tryz.func218, Tryz.ntmps218
  go_wp2
  go_loopw [3] (fun iv wr => ∃ n : Nat, 1 ≤ n ∧ n ≤ 7 ∧ iv = .int .i64 (n : Int) ∧ (∀ j, j < n - 1 → ¬ opTx.getD j [] = t) ∧ wr = w) (fun iv _ => 7 - (intOf iv).toNat)
  case atStart => exact ⟨1, by omega, by omega, rfl, fun j hj => by omega, rfl⟩
  case round =>
    obtain ⟨n, h1, h7, rfl, hno, rfl⟩ := hrel
    have HN := hidX hno
    clear hno
    by_cases h6 : n ≤ 6
    · have k0 : (0 : Int) ≤ (n : Int) := by omega
      have k1 : (n : Int) < 7 := by omega
      have k2 : (n : Int) ≤ 6 := by omega
      obtain ⟨ob, hob⟩ : ∃ ob, ob = opTx.getD (n - 1) [] := ⟨_, rfl⟩
      have hc : wr.cell? ⟨1, n, none⟩ = some (.string (mkS ob)) := by
        have := HT.out (n - 1) (by omega)
        rw [← hob, show 1 + (n - 1) = n by omega] at this
        exact this
      have hbe := str_beq ob t
      by_cases he : ob = t
      · rw [decide_eq_true he] at hbe
        have HX : Hid (testIx t = n) := testIx_hit h1 h6 (hob ▸ he)
        clear he hob
        go_wp2
        go_ret
        exact ⟨by rw [HX.out]; rfl, rfl⟩
      · rw [decide_eq_false he] at hbe
        have HN2 : Hid (∀ j, j < n + 1 - 1 → ¬ opTx.getD j [] = t) := fun j hj => by
          rcases Nat.lt_or_ge j (n - 1) with h | h
          · exact HN.out j h
          · obtain rfl : j = n - 1 := by omega
            rw [← hob]
            exact he
        clear he hob
        go_wp2
        go_roundw
        case rel => exact ⟨n + 1, by omega, by omega, by go_num, HN2.out, (by first | rfl | trivial)⟩
        case measure => (simp [intOf]; omega)
    · obtain rfl : n = 7 := by omega
      have HX : Hid (testIx t = 0) := testIx_none HN.out
      go_wp2
      go_ret
      exact ⟨by rw [HX.out]; rfl, rfl⟩
end Go.Proofs.YtgkoiojelckblaaGreatDoor

namespace Go.Proofs.YtgkoiojelckblaaGreatDoor
open Go.RowKit
attribute [local go_sem ↓] Go.wp_at_zero Go.wp_at_succ

theorem trim_strip (t : Bs) : Lib.trimPrefix t [45] = stripM t := by
  unfold Lib.trimPrefix Lib.hasPrefix stripM
  cases t with
  | nil => rfl
  | cons b r =>
    by_cases h : b = 45
    · subst h
      simp
    · have h' : ¬ (45 : UInt8) = b := fun e => h e.symm
      simp [h, h']
theorem isD_dg (b : UInt8) : isD (b.toNat : Int) = isDg b := by
  unfold isD isDg
  congr 1
  · exact decide_eq_decide.2 (by omega)
  · exact decide_eq_decide.2 (by omega)
theorem below_drew1 {B : Nat} {a w : World} (h : Below B a w) : Below B a w.drew := ⟨h.os, h.tape, h.output, h.size, h.block⟩
theorem strip_len (t : Bs) : (stripM t).length ≤ t.length := by
  unfold stripM
  split
  · simp
  · exact Nat.le_refl _

set_option maxHeartbeats 3200000 in
theorem numberOf_any (t : Bs) (w : World) (hl : t.length ≤ 20000) (tp : TypeId) (p : Value) (hvar : w.var? Tryz.prog "strconv.ErrRange" = some #[.iface tp p]) : Calls Tryz.prog 216 #[.string (mkS t)] w (IPost t w) := by
  have HVAR := hidX hvar
  clear hvar
  have hz := beq_lit (mkS t) [48]
  rw [bs_mkS] at hz
  by_cases h0 : t = [48]
  · rw [decide_eq_true h0] at hz
    have HN : Hid (numOf t = some 0) := show _ = _ from by rw [h0]; exact numOf_zero
    clear h0
    go_enter Tryz.func216, Tryz.ntmps216
    go_wp2
    go_ret2
    exact ⟨0, true, rfl, HN.out, Below.refl _ _⟩
  · rw [decide_eq_false h0] at hz
    obtain ⟨S, hS⟩ : ∃ S : ByteArray, S = mkS (stripM t) := ⟨_, rfl⟩
    have hD : bsOf S = stripM t := by rw [hS, bs_mkS]
    have HTP : Hid (∀ w', Calls Tryz.prog 258 #[.string (mkS t), .string ⟨#[45]⟩] w' fun e w1 => e = .returned (.string S) ∧ w1 = w') := fun w' => (Tryz.strings_TrimPrefix (mkS t) ⟨#[45]⟩ w').mono fun e w1 h => ⟨by rw [h.1, hS, ← trim_strip]; rfl, h.2⟩
    have hsz : S.size ≤ 20000 := by rw [← bs_length, hD]; exact Nat.le_trans (strip_len t) hl
    clear hS
    have he := beq_lit S []
    by_cases hnil : bsOf S = []
    · rw [decide_eq_true hnil] at he
      have HN : Hid (numOf t = none) := numOf_bad1 h0 (.inl (hD ▸ hnil))
      clear h0 hD hnil
      go_enter Tryz.func216, Tryz.ntmps216
      go_wp2_with (go_at_call 258; refine (HTP.out _).mono ?_; rintro e w1 ⟨rfl, hw⟩; rw [hw]; clear hw w1)
      go_ret2
      exact IPost.no 0 rfl HN.out (Below.refl _ _)
    · rw [decide_eq_false hnil] at he
      have hs0 : 0 < S.size := by
        rw [← bs_length]
        exact List.length_pos_iff.2 hnil
      have j0 : (0 : Int) < (S.size : Int) := by omega
      have hhd := bs_head S hs0
      by_cases h48 : S[0] = 48
      · have hb : ((S[0].toNat : Int) == 48) = true := by rw [h48]; rfl
        have HN : Hid (numOf t = none) := numOf_bad1 h0 (.inr (by rw [← hD, hhd, h48]))
        clear h0 hD hnil h48 hhd
        go_enter Tryz.func216, Tryz.ntmps216
        go_wp2_with (go_at_call 258; refine (HTP.out _).mono ?_; rintro e w1 ⟨rfl, hw⟩; rw [hw]; clear hw w1)
        go_ret2
        exact IPost.no 0 rfl HN.out (Below.refl _ _)
      · have hb : ((S[0].toNat : Int) == 48) = false := beqF fun e => h48 (byteN.1 (by rw [e]; rfl))
        have HNN : Hid (stripM t ≠ [] ∧ (stripM t).head? ≠ some 48) := show _ ∧ _ from by rw [← hD, hhd]; exact ⟨hnil, fun e => h48 (by injection e)⟩
        have HDD := hidX hD
        clear h0 hD hnil h48 hhd
        go_enter Tryz.func216, Tryz.ntmps216
        go_wp2_with (go_at_call 258; refine (HTP.out _).mono ?_; rintro e w1 ⟨rfl, hw⟩; rw [hw]; clear hw w1)
        go_loop [21] (fun iv => ∃ k : Nat, k ≤ S.size ∧ iv = .int .i64 (k : Int) ∧ ((bsOf S).take k).all isDg = true) (fun iv => S.size - (intOf iv).toNat)
        case atStart => exact ⟨0, by omega, rfl, by simp⟩
        case round =>
          obtain ⟨k, hk, rfl, hall⟩ := hrel
          have HALL := hidX hall
          clear hall hb he
          by_cases hkl : k < S.size
          · have k0 : (0 : Int) ≤ (k : Int) := by omega
            have k1 : (k : Int) < (S.size : Int) := by omega
            have hkb : k < (bsOf S).length := by rw [bs_length]; exact hkl
            have eb : (bsOf S)[k] = S[k] := byte_at S k hkl
            have hdv := isD_dg S[k]
            by_cases hd : isDg S[k] = true
            · have HID : Hid (∀ w', Calls Tryz.prog 164 #[.int .u8 (S[k].toNat : Int)] w' fun e w1 => e = .returned (.bool true) ∧ w1 = w') := fun w' => (isDigit_any _ w').mono fun e w1 h => ⟨by rw [h.1, hdv, hd], h.2⟩
              have HA2 : Hid (((bsOf S).take (k + 1)).all isDg = true) := all_take_step hkb HALL.out (by rw [eb]; exact hd)
              clear eb hd hdv
              go_wp2_with (go_at_call 164; refine (HID.out _).mono ?_; rintro e w1 ⟨rfl, hw⟩; rw [hw]; clear hw w1)
              refine ⟨⟨k + 1, by omega, by go_num, HA2.out⟩, ?_⟩
              simp [intOf]
              omega
            · have hdf : isDg S[k] = false := by simpa using hd
              have HID : Hid (∀ w', Calls Tryz.prog 164 #[.int .u8 (S[k].toNat : Int)] w' fun e w1 => e = .returned (.bool false) ∧ w1 = w') := fun w' => (isDigit_any _ w').mono fun e w1 h => ⟨by rw [h.1, hdv, hdf], h.2⟩
              have HN : Hid (numOf t = none) := numOf_bad2 (by
                rw [← HDD.out]
                exact List.all_eq_false.2 ⟨(bsOf S)[k], List.getElem_mem hkb, by rw [eb]; simpa using hdf⟩)
              clear eb hd hdf hdv
              go_wp2_with (go_at_call 164; refine (HID.out _).mono ?_; rintro e w1 ⟨rfl, hw⟩; rw [hw]; clear hw w1)
              go_ret2
              exact IPost.no 0 rfl HN.out (Below.refl _ _)
          · obtain rfl : k = S.size := by omega
            have k1 : ¬ (S.size : Int) < (S.size : Int) := by omega
            have h3 : (stripM t).all isDg = true := by
              have := HALL.out
              rw [List.take_of_length_le (by rw [bs_length]; exact Nat.le_refl _), HDD.out] at this
              exact this
            rcases numOf_good HNN.out.1 HNN.out.2 h3 with ⟨v, hp, hn⟩ | ⟨hp, hn⟩
            · have HP := hidX (Tryz.strconv_ParseInt_10_at64_ok (mkS t) (by rw [mkS_size]; omega) v hp)
              have HN := hidX hn
              clear hp hn h3
              go_wp2_with (go_at_call 259; refine (HP.out _).mono ?_; rintro e w1 ⟨rfl, hw1⟩; have hb1 : Below w.heap.size w w1 := (by rcases hw1 with rfl | ⟨u, rfl⟩ <;> first | exact Below.refl _ _ | exact Lib.bytesWorld_below _ _ _); clear hw1)
              go_region
              go_wp2
              go_ret2
              exact ⟨v, true, rfl, HN.out, below_drew1 hb1⟩
            · have HP := hidX (Tryz.strconv_ParseInt_10_at64_range_var (mkS t) (by rw [mkS_size]; omega) hp tp p w HVAR.out)
              have HN := hidX hn
              clear hp hn h3
              go_wp2_with (go_at_call 259; refine HP.out.mono ?_; rintro e w1 ⟨N, rfl, _, _, hb1⟩)
              go_region
              go_wp2
              go_ret2
              exact IPost.no _ rfl HN.out (below_drew1 hb1)
end Go.Proofs.YtgkoiojelckblaaGreatDoor

namespace Go.Proofs.YtgkoiojelckblaaGreatDoor
open Go.RowKit
attribute [local go_sem ↓] Go.wp_at_zero Go.wp_at_succ

set_option maxHeartbeats 1600000 in
theorem l2GoodExpr_yes (a : Option Addr) (c : Nat) (es : List Ex) (S : List Sp) (e : Ex) (w : World) {q : Option Nat} (hv : ExsAt q w a es) (hl : es.length ≤ 60) (hS : Spans es S) (he : es[S.length]? = some e) (hs : e.le maxLen) (ho0 : 0 ≤ e.op) (ho1 : e.op < 256) (hy : (spanOf S e).isSome = true) :
    Calls Tryz.prog 96 #[.slice a es.length c, .int .i64 (S.length : Int)] w fun e' w' => e' = .returned (.bool true) ∧ Below w.heap.size w w' := by
  obtain ⟨hs1, hs2⟩ := hs
  have hkl : S.length < es.length := (List.getElem?_eq_some_iff.1 he).1
  have B1 : ∀ o, Below w.heap.size w (w.alloc o) := fun o => (Below.refl _ _).alloc (Nat.le_refl _) _
  have hv0 := hv
  obtain ⟨b, o, rfl, hq, c0, c1, c2, c3, c4, c5, c6, c7⟩ := hv.get he
  clear hq hv
  by_cases k0 : e.kind = 0
  · have e0 : (e.kind == 0) = true := by simp [k0]
    cases h1 : (e.op == 0) <;> cases h2 : (e.a == 0) <;> cases h3 : (e.b == 0) <;> cases h4 : e.var.toList.isEmpty
    all_goals try (exfalso; simp [spanOf, leafOk, isE, e0, h1, h2, h3, h4] at hy; done)
    have hg : gVal e.val = true := by simpa [spanOf, leafOk, isE, e0, h1, h2, h3, h4] using hy
    have HG := hidSF (l1GoodVal_any e.val)
    rw [hg] at HG
    go_enter Tryz.func96, Tryz.ntmps96
    go_wp2_with (go_at_call 152; refine (HG.out _ hs2).mono ?_; rintro e' w' ⟨rfl, hb'⟩)
    go_ret
    exact ⟨rfl, (B1 _).trans (hb'.mono (by simp))⟩
  by_cases k1 : e.kind = 1
  · have e0 : (e.kind == 0) = false := by simp [k1]
    have e1 : (e.kind == 1) = true := by simp [k1]
    cases h1 : (e.op == 0) <;> cases h2 : (e.a == 0) <;> cases h3 : (e.b == 0) <;> cases h4 : gSym e.var.data.toList
    all_goals try (exfalso; simp [spanOf, leafOk, e0, e1, h1, h2, h3, h4] at hy; done)
    have hg : zeroV e.val = true := by simpa [spanOf, leafOk, e0, e1, h1, h2, h3, h4] using hy
    have HG := hidSF (l2Zero_any e.val)
    rw [hg] at HG
    go_enter Tryz.func96, Tryz.ntmps96
    go_wp2_with (first | (go_at_call 94; refine (l1GoodSym_any e.var _ hs1).mono ?_; rintro e' w' ⟨rfl, rfl⟩) | (go_at_call 153; refine (HG.out _).mono ?_; rintro e' w' ⟨rfl, hb'⟩))
    go_ret
    exact ⟨rfl, (B1 _).trans (hb'.mono (by simp))⟩
  have e0 : (e.kind == 0) = false := by simpa using k0
  have e1 : (e.kind == 1) = false := by simpa using k1
  by_cases k2 : e.kind = 2
  · have hSp : (spanOf S e).isSome = (if opOk S e then spanAB S e.a e.b else none).isSome := by simp [spanOf, k2]
    clear c0 c1 c2 c3 c4 c5 c6 c7
    rw [hSp] at hy
    have hok : opOk S e = true := by
      cases h : opOk S e
      · rw [h] at hy; simp at hy
      · rfl
    rw [hok, if_pos rfl] at hy
    simp only [opOk, isE, Bool.and_eq_true, decide_eq_true_eq] at hok
    obtain ⟨har, hva, hzv, hbi, hb0, ha0⟩ := hok
    obtain ⟨bn, heb⟩ := Int.eq_ofNat_of_zero_le hb0
    have hbn : bn + 1 = S.length := by omega
    obtain ⟨sb, hsb⟩ : ∃ s, S[bn]? = some s := ⟨S[bn]'(by omega), by simp⟩
    obtain ⟨ea, hea⟩ := Int.eq_ofNat_of_zero_le ha0
    have hfl := hS.first_le bn sb hsb
    unfold spanAB at hy
    rw [heb, hea, Int.toNat_natCast, Int.toNat_natCast, hsb] at hy
    cases hsa : S[ea]? with
    | none => rw [hsa] at hy; simp at hy
    | some sa =>
      rw [hsa] at hy
      have hm : (ea : Int) = (sb.1 : Int) - 1 ∧ 1 + max sa.2 sb.2 ≤ 20 := by
        by_cases h : (ea : Int) = (sb.1 : Int) - 1 ∧ 1 + max sa.2 sb.2 ≤ 20
        · exact h
        · have h' : (decide ((ea : Int) = (sb.1 : Int) - 1) && decide (1 + max sa.2 sb.2 ≤ 20)) = false := by
            rw [Bool.eq_false_iff]
            intro h2
            rw [Bool.and_eq_true, decide_eq_true_eq, decide_eq_true_eq] at h2
            exact h h2
          simp only [h'] at hy
          simp at hy
      have hX := goodExpr_o7b _ c es S e w hv0 hl he ho0 ho1 k2 har hva hzv hS bn hbn heb sb hsb (by omega) (by rw [hea]; simpa using hm.1) ea sa hea hsa
      rw [decide_eq_true hm.2] at hX
      exact hX
  · exfalso
    have e2 : (e.kind == 2) = false := by simpa using k2
    simp [spanOf, e0, e1, e2] at hy
end Go.Proofs.YtgkoiojelckblaaGreatDoor
