/-
  OUR OWN TEXT. Sx4, Sx5, Sx6, Sx7, Sx8, one behind the other.
-/
import Derived.Test.YtdhpoagjmiligaaGreatDoorSx3m
import Derived.Test.YtdhpoagjmiligaaGreatDoorKan
import Derived.Test.YtdhpoagjmiligaaGreatDoorOgm
import Derived.Test.YtdhpoagjmiligaaGreatDoorHwm
import Derived.Test.YtdhpoagjmiligaaGreatDoorKap
import Derived.Test.YtdhpoagjmiligaaGreatDoorShgm
import Derived.WalkSmall
import Derived.Test.YtdhpoagjmiligaaGreatDoorBlkm
namespace Go.Proofs.YtdhpoagjmiligaaGreatDoor

/-- A word as the model tells it. -/
structure Wd where
  kind : Int
  pos : Nat
  text : Bs
  num : Int
def blankB (b : UInt8) : Bool := decide (b = 32) || (decide (b = 9) || (decide (b = 10) || decide (b = 13)))
def wordB (b : UInt8) : Bool := decide (32 < b.toNat) && (decide (b.toNat < 127) && (decide (b ≠ 40) && (decide (b ≠ 41) && decide (b ≠ 59))))
def lineP (b : UInt8) : Bool := decide (b ≠ 10)
def runOf (p : UInt8 → Bool) (l : Bs) : Nat := (l.takeWhile p).length
def wordsGo : Nat → Bs → Nat → List Wd
  | 0, _, _ => []
  | _ + 1, [], k => [⟨0, k, [], 0⟩]
  | n + 1, b :: r, k =>
    if blankB b then wordsGo n r (k + 1)
    else if b = 59 then wordsGo n ((b :: r).drop (runOf lineP (b :: r))) (k + runOf lineP (b :: r))
    else if b = 40 then ⟨1, k, [], 0⟩ :: wordsGo n r (k + 1)
    else if b = 41 then ⟨2, k, [], 0⟩ :: wordsGo n r (k + 1)
    else if b.toNat < 33 ∨ 126 < b.toNat then ⟨7, k, [], 0⟩ :: wordsGo n r (k + 1)
    else ⟨mkind ((b :: r).takeWhile wordB), k, (b :: r).takeWhile wordB, mnum ((b :: r).takeWhile wordB)⟩ :: wordsGo n ((b :: r).drop (runOf wordB (b :: r))) (k + runOf wordB (b :: r))
def wordsAt (s : Bs) (k : Nat) : List Wd := wordsGo (s.length + 1 - k) (s.drop k) k
def wordsOf (s : Bs) : List Wd := wordsAt s 0

theorem run_pos {p : UInt8 → Bool} {b : UInt8} {r : Bs} (h : p b = true) : 1 ≤ runOf p (b :: r) := by
  unfold runOf
  rw [List.takeWhile_cons, if_pos h]
  simp
theorem run_le (p : UInt8 → Bool) (l : Bs) : runOf p l ≤ l.length := List.Sublist.length_le (List.takeWhile_sublist p)
theorem line59 : lineP 59 = true := by decide
theorem wordB_of {b : UInt8} (h1 : ¬ b = 59) (h2 : ¬ b = 40) (h3 : ¬ b = 41) (h4 : ¬ (b.toNat < 33 ∨ 126 < b.toNat)) : wordB b = true := by
  unfold wordB
  simp [h1, h2, h3]
  omega
theorem wordsGo_fuel : ∀ (n m : Nat) (l : Bs) (k : Nat), l.length < n → l.length < m → wordsGo n l k = wordsGo m l k := by
  intro n
  induction n with
  | zero => intro m l k h; omega
  | succ n ih =>
    intro m l k hn hm
    obtain ⟨m, rfl⟩ : ∃ m', m = m' + 1 := ⟨m - 1, by omega⟩
    cases l with
    | nil => rfl
    | cons b r =>
      have hr : r.length < n ∧ r.length < m := by simp at hn hm; omega
      unfold wordsGo
      by_cases h1 : blankB b = true
      · rw [if_pos h1, if_pos h1]
        exact ih m r _ hr.1 hr.2
      · rw [if_neg h1, if_neg h1]
        by_cases h2 : b = 59
        · rw [if_pos h2, if_pos h2]
          have hp : 1 ≤ runOf lineP (b :: r) := run_pos (by rw [h2]; exact line59)
          exact ih m _ _ (by rw [List.length_drop]; simp only [List.length_cons] at *; omega) (by rw [List.length_drop]; simp only [List.length_cons] at *; omega)
        · rw [if_neg h2, if_neg h2]
          by_cases h3 : b = 40
          · rw [if_pos h3, if_pos h3, ih m r _ hr.1 hr.2]
          · rw [if_neg h3, if_neg h3]
            by_cases h4 : b = 41
            · rw [if_pos h4, if_pos h4, ih m r _ hr.1 hr.2]
            · rw [if_neg h4, if_neg h4]
              by_cases h5 : b.toNat < 33 ∨ 126 < b.toNat
              · rw [if_pos h5, if_pos h5, ih m r _ hr.1 hr.2]
              · rw [if_neg h5, if_neg h5]
                have hp : 1 ≤ runOf wordB (b :: r) := run_pos (wordB_of h2 h3 h4 h5)
                rw [ih m _ _ (by rw [List.length_drop]; simp only [List.length_cons] at *; omega) (by rw [List.length_drop]; simp only [List.length_cons] at *; omega)]
theorem wordsAt_go (s : Bs) (k n : Nat) (hk : k ≤ s.length) (hn : s.length - k < n) : wordsGo n (s.drop k) k = wordsAt s k :=
  wordsGo_fuel _ _ _ _ (by rw [List.length_drop]; exact hn) (by rw [List.length_drop]; omega)
theorem wordsAt_end (s : Bs) : wordsAt s s.length = [⟨0, s.length, [], 0⟩] := by
  unfold wordsAt
  rw [List.drop_length, show s.length + 1 - s.length = 0 + 1 by omega]
  rfl
/-- One step. -/
theorem wordsAt_step {s : Bs} {k : Nat} {b : UInt8} (hb : s[k]? = some b) : wordsAt s k =
    if blankB b then wordsAt s (k + 1)
    else if b = 59 then wordsAt s (k + runOf lineP (s.drop k))
    else if b = 40 then ⟨1, k, [], 0⟩ :: wordsAt s (k + 1)
    else if b = 41 then ⟨2, k, [], 0⟩ :: wordsAt s (k + 1)
    else if b.toNat < 33 ∨ 126 < b.toNat then ⟨7, k, [], 0⟩ :: wordsAt s (k + 1)
    else ⟨mkind ((s.drop k).takeWhile wordB), k, (s.drop k).takeWhile wordB, mnum ((s.drop k).takeWhile wordB)⟩ :: wordsAt s (k + runOf wordB (s.drop k)) := by
  have hk : k < s.length := (List.getElem?_eq_some_iff.1 hb).1
  have hd : s.drop k = b :: s.drop (k + 1) := drop_cons hb
  have h0 : wordsAt s k = wordsGo (s.length - k + 1) (b :: s.drop (k + 1)) k := by
    rw [← wordsAt_go s k (s.length - k + 1) (by omega) (by omega), hd]
  have e1 : wordsGo (s.length - k) (s.drop (k + 1)) (k + 1) = wordsAt s (k + 1) := wordsAt_go s (k + 1) _ (by omega) (by omega)
  have e2 : ∀ p, 1 ≤ runOf p (s.drop k) → wordsGo (s.length - k) ((s.drop k).drop (runOf p (s.drop k))) (k + runOf p (s.drop k)) = wordsAt s (k + runOf p (s.drop k)) := fun p hp => by
    have hl := run_le p (s.drop k)
    rw [List.length_drop] at hl
    rw [List.drop_drop]
    exact wordsAt_go s _ _ (by omega) (by omega)
  rw [h0]
  unfold wordsGo
  rw [← hd, e1]
  by_cases h1 : blankB b = true
  · rw [if_pos h1, if_pos h1]
  · rw [if_neg h1, if_neg h1]
    by_cases h2 : b = 59
    · rw [if_pos h2, if_pos h2, e2 lineP (by rw [hd, h2]; exact run_pos line59)]
    · rw [if_neg h2, if_neg h2]
      by_cases h3 : b = 40
      · rw [if_pos h3, if_pos h3]
      · rw [if_neg h3, if_neg h3]
        by_cases h4 : b = 41
        · rw [if_pos h4, if_pos h4]
        · rw [if_neg h4, if_neg h4]
          by_cases h5 : b.toNat < 33 ∨ 126 < b.toNat
          · rw [if_pos h5, if_pos h5]
          · rw [if_neg h5, if_neg h5, e2 wordB (by rw [hd]; exact run_pos (wordB_of h2 h3 h4 h5))]
/-- How far a run goes. -/
theorem run_eq {p : UInt8 → Bool} : ∀ {l : Bs} {n : Nat}, n ≤ l.length → (∀ i b, i < n → l[i]? = some b → p b = true) → (∀ b, l[n]? = some b → p b = false) → l.takeWhile p = l.take n
  | [], n, hn, _, _ => by
    obtain rfl : n = 0 := by simpa using hn
    rfl
  | b :: r, 0, _, _, h2 => by
    have := h2 b rfl
    rw [List.takeWhile_cons, if_neg (by simp [this])]
    rfl
  | b :: r, n + 1, hn, h1, h2 => by
    have hb := h1 0 b (by omega) rfl
    rw [List.takeWhile_cons, if_pos hb, List.take_succ_cons, run_eq (l := r) (n := n) (by simpa using hn) (fun i c hi hc => h1 (i + 1) c (by omega) (by simpa using hc)) (fun c hc => h2 c (by simpa using hc))]
theorem run_at {p : UInt8 → Bool} {s : Bs} {k j : Nat} (hkj : k ≤ j) (hj : j ≤ s.length) (h1 : ∀ i b, k ≤ i → i < j → s[i]? = some b → p b = true) (h2 : ∀ b, s[j]? = some b → p b = false) : (s.drop k).takeWhile p = (s.drop k).take (j - k) ∧ k + runOf p (s.drop k) = j := by
  have e : (s.drop k).takeWhile p = (s.drop k).take (j - k) := run_eq (by rw [List.length_drop]; omega) (fun i b hi hb => h1 (k + i) b (by omega) (by omega) (by rw [List.getElem?_drop] at hb; exact hb)) (fun b hb => h2 b (by rw [List.getElem?_drop, show k + (j - k) = j by omega] at hb; exact hb))
  refine ⟨e, ?_⟩
  unfold runOf
  rw [e, List.length_take, List.length_drop]
  omega
end Go.Proofs.YtdhpoagjmiligaaGreatDoor

namespace Go.Proofs.YtdhpoagjmiligaaGreatDoor
open Go.RowKit
attribute [local go_sem ↓] Go.wp_at_zero Go.wp_at_succ

def wdV (x : Wd) : List Value := [.int .i64 x.kind, .int .i64 (x.pos : Int), .string (mkS x.text), .int .i64 x.num]
def wdsV (l : List Wd) : List Value := l.flatMap wdV
theorem wdsV_snoc (l : List Wd) (x : Wd) : wdsV (l ++ [x]) = wdsV l ++ wdV x := by simp [wdsV]
theorem wdV_one (x : Wd) : ∀ u ∈ wdV x, u.oneCell' = true := by
  intro u hu
  simp [wdV] at hu
  rcases hu with rfl | rfl | rfl | rfl <;> rfl
theorem infoWd : (Tryz.prog.info? 72).map (fun i => (i.zero, i.size, i.bytes)) = some (some (.agg #[.int .i64 0, .int .i64 0, .string ByteArray.empty, .int .i64 0]), 4, 40) := by kernel_rfl
/-- What is told: words, owned. -/
def WdsPost (w : World) (l : List Wd) (e : Ending) (w' : World) : Prop := (∃ a c, e = .returned (.slice a l.length c) ∧ w'.ownsRow w.heap.size 72 4 (.slice a l.length c) l.length (wdsV l)) ∧ Below w.heap.size w w'
theorem byteN {b c : UInt8} : ((b.toNat : Int) = (c.toNat : Int)) ↔ b = c := by
  constructor
  · intro h
    exact UInt8.toNat_inj.1 (by omega)
  · rintro rfl
    rfl
theorem beqF {a b : Int} (h : ¬ a = b) : (a == b) = false := by simpa using h
theorem blank_int (b : UInt8) : blankB b = true ↔ ((b.toNat : Int) = 32 ∨ (b.toNat : Int) = 9 ∨ (b.toNat : Int) = 10 ∨ (b.toNat : Int) = 13) := by
  unfold blankB
  simp only [Bool.or_eq_true, decide_eq_true_eq]
  have e32 := byteN (b := b) (c := 32)
  have e9 := byteN (b := b) (c := 9)
  have e10 := byteN (b := b) (c := 10)
  have e13 := byteN (b := b) (c := 13)
  have c32 : ((32 : UInt8).toNat : Int) = 32 := rfl
  have c9 : ((9 : UInt8).toNat : Int) = 9 := rfl
  have c10 : ((10 : UInt8).toNat : Int) = 10 := rfl
  have c13 : ((13 : UInt8).toNat : Int) = 13 := rfl
  rw [c32] at e32
  rw [c9] at e9
  rw [c10] at e10
  rw [c13] at e13
  rw [e32, e9, e10, e13]
theorem word_int (b : UInt8) : wordB b = true ↔ ((32 : Int) < (b.toNat : Int) ∧ (b.toNat : Int) < 127 ∧ ¬ (b.toNat : Int) = 40 ∧ ¬ (b.toNat : Int) = 41 ∧ ¬ (b.toNat : Int) = 59) := by
  unfold wordB
  simp only [Bool.and_eq_true, decide_eq_true_eq]
  have e40 := byteN (b := b) (c := 40)
  have e41 := byteN (b := b) (c := 41)
  have e59 := byteN (b := b) (c := 59)
  have c40 : ((40 : UInt8).toNat : Int) = 40 := rfl
  have c41 : ((41 : UInt8).toNat : Int) = 41 := rfl
  have c59 : ((59 : UInt8).toNat : Int) = 59 := rfl
  rw [c40] at e40
  rw [c41] at e41
  rw [c59] at e59
  rw [e40, e41, e59]
  constructor
  · rintro ⟨h1, h2, h3⟩
    exact ⟨by omega, by omega, h3⟩
  · rintro ⟨h1, h2, h3⟩
    exact ⟨by omega, by omega, h3⟩
theorem lift_03 {P : World → Prop} {w : World} {b : Nat} {t : TypeId} {x0 x1 x2 x3 y0 y3 : Value} (h0 : w.heap[b]? = some (.cells #[x0, x1, x2, x3] t (0, 0))) (h : ∀ wt, wt.heap[b]? = some (.cells #[y0, x1, x2, y3] t (0, 0)) → Below b w wt → P wt) : P ((w.setCell ⟨b, 0, none⟩ y0).setCell ⟨b, 3, none⟩ y3) := by
  refine h _ ?_ (((Below.refl b w).setCell (Nat.le_refl b) _).setCell (Nat.le_refl b) _)
  have h1 := heap_setCell_same (i := 0) h0 y0
  exact heap_setCell_same (i := 3) h1 y3
theorem conv_word (src : Bs) (w : World) (b o c k j : Nat) (hv : BysAt w (some ⟨b, o, none⟩) src) (hkj : k ≤ j) (hj : j ≤ src.length) : (convert 22 9 (.slice (some ⟨b, o + k, none⟩) (j - k) c)).run Tryz.prog w = .ok (.string (mkS ((src.drop k).take (j - k)))) w := by
  have hl : ((src.drop k).take (j - k)).length = j - k := by rw [List.length_take, List.length_drop]; omega
  have h := run_convert_bytes_arg (P := Tryz.prog) w 22 5 Tryz.underlying22 Tryz.underlying5 b (o + k) (j - k) c (((src.drop k).take (j - k)).map fun x => (x.toNat : Int)) (by rw [List.length_map, hl]) (fun i hi => by
    have hi' : i < j - k := by simpa [hl] using hi
    have hx : src[k + i]? = some (src[k + i]'(by omega)) := by simp
    obtain ⟨b', o', e, _, hc⟩ := hv (k + i) _ hx
    simp only [Option.some.injEq, Addr.mk.injEq, and_true] at e
    obtain ⟨rfl, rfl⟩ := e
    rw [Nat.add_assoc, hc]
    simp [hi']
    rw [hx]
    rfl) 9 Tryz.underlying9
  rw [h]
  have e1 : (((src.drop k).take (j - k)).map fun x => (x.toNat : Int)).map (fun n => UInt8.ofNat n.toNat) = (src.drop k).take (j - k) := by
    rw [List.map_map]
    exact List.map_id'' (fun x => by simp) _
  unfold strOfNums
  rw [e1]
  rfl
theorem own_wds {w : World} {base n : Nat} {a : Option Addr} {c : Nat} {l l' : List Wd} {x : Wd} {m : Nat} (h : w.ownsRow base 72 4 (.slice a n c) n (wdsV l ++ wdV x)) (hl : l' = l ++ [x]) (hm : m = n) : w.ownsRow base 72 4 (.slice a m c) m (wdsV l') := by
  subst hl hm
  rw [wdsV_snoc]
  exact h

set_option maxRecDepth 100000 in
set_option maxHeartbeats 6400000 in
theorem l2Words_any (src : Bs) (a : Option Addr) (c : Nat) (w : World) (hv : BysAt w a src) (hl : src.length ≤ 20000) (hcap : src.length ≤ c) : Calls Tryz.prog 18 #[.slice a src.length c] w (WdsPost w (wordsOf src)) := by
  have HV := hidX hv
  clear hv
  go_enter Tryz.func18, Tryz.ntmps18
  go_wp2
  go_loopw [3, 4] (fun sv iv wr => ∃ (k : Nat) (L : List Wd) (a' : Option Addr) (c' : Nat), k ≤ src.length ∧ iv = .int .i64 (k : Int) ∧ sv = .slice a' L.length c' ∧ wr.ownsRow w.heap.size 72 4 (.slice a' L.length c') L.length (wdsV L) ∧ L.length ≤ k ∧ wordsOf src = L ++ wordsAt src k ∧ Below w.heap.size w wr) (fun _ iv _ => src.length - (intOf iv).toNat)
  case atStart => exact ⟨0, [], none, 0, Nat.zero_le _, rfl, rfl, World.ownsRow_nil _ _ _ _, Nat.le_refl _, rfl, Below.refl _ _⟩
  case round =>
    obtain ⟨k, L, a', c', hk, rfl, rfl, hown, hLk, hW, hb⟩ := hrel
    have HR := hidX hown
    have HW := hidX hW
    have HB := hidX hb
    have hsz := hb.size
    clear hown hW hb
    by_cases hkl : k < src.length
    · obtain ⟨x, hx⟩ : ∃ x, src[k]? = some x := ⟨src[k], by simp [hkl]⟩
      have hstep := wordsAt_step hx
      obtain ⟨b, o, rfl, _, hc⟩ := (HV.out.below HB.out) k x hx
      have k0 : (0 : Int) ≤ (k : Int) := by omega
      have k1 : (k : Int) < (src.length : Int) := by omega
      have hbi := blank_int x
      have hwi := word_int x
      have x256 : x.toNat < 256 := UInt8.toNat_lt x
      have HX := hidX hx
      clear hx
      by_cases h1 : blankB x = true
      · have HS : Hid (wordsOf src = L ++ wordsAt src (k + 1)) := show _ = _ from by rw [HW.out, hstep, if_pos h1]
        have h1' := hbi.1 h1
        clear hstep hbi hwi h1
        rcases h1' with h | h | h | h
        all_goals
          rw [h] at hc
          clear h
          go_wp2
          go_roundw
          case rel => exact ⟨k + 1, L, a', c', by omega, by go_num, rfl, HR.out, by omega, HS.out, HB.out⟩
          case measure => (simp [intOf]; omega)
      · have nb : ¬ ((x.toNat : Int) = 32 ∨ (x.toNat : Int) = 9 ∨ (x.toNat : Int) = 10 ∨ (x.toNat : Int) = 13) := fun h => h1 (hbi.2 h)
        have n1 : ((x.toNat : Int) == 32) = false := beqF fun h => nb (.inl h)
        have n2 : ((x.toNat : Int) == 9) = false := beqF fun h => nb (.inr (.inl h))
        have n3 : ((x.toNat : Int) == 10) = false := beqF fun h => nb (.inr (.inr (.inl h)))
        have n4 : ((x.toNat : Int) == 13) = false := beqF fun h => nb (.inr (.inr (.inr h)))
        rw [if_neg h1] at hstep
        clear h1 hbi nb
        by_cases h2 : x = 59
        · rw [if_pos h2] at hstep
          have HST := hidX hstep
          have hc' := hc
          rw [h2] at hc'
          have hc59 : wr.cell? ⟨b, o + k, none⟩ = some (.int .u8 59) := hc'
          have hl59 : ∀ z, src[k]? = some z → lineP z = true := fun z hz => by
            rw [HX.out] at hz
            injection hz with hz
            subst hz
            rw [h2]
            exact line59
          clear hstep hwi h2 hc hc'
          obtain ⟨wo, hwo⟩ : ∃ u, u = wr := ⟨wr, rfl⟩
          rw [← hwo] at HR HB hsz hc59 ⊢
          have hHV := HV.out.below HB.out
          clear hwo
          go_wp2
          go_loopw [4] (fun iv wq => ∃ j : Nat, k ≤ j ∧ j ≤ src.length ∧ iv = .int .i64 (j : Int) ∧ (∀ i z, k ≤ i → i < j → src[i]? = some z → lineP z = true) ∧ wq = wo) (fun iv _ => src.length - (intOf iv).toNat)
          case atStart => exact ⟨k, Nat.le_refl _, by omega, rfl, fun i z h1 h2 => by omega, rfl⟩
          case round =>
            obtain ⟨j, hkj, hj, rfl, hal, rfl⟩ := hrel
            have HAL := hidX hal
            clear hal hc59
            by_cases hjl : j < src.length
            · obtain ⟨z, hz⟩ : ∃ z, src[j]? = some z := ⟨src[j], by simp [hjl]⟩
              obtain ⟨b2, o2, ea, _, hcz⟩ := hHV j z hz
              simp only [Option.some.injEq, Addr.mk.injEq, and_true] at ea
              obtain ⟨rfl, rfl⟩ := ea
              have j0 : (0 : Int) ≤ (j : Int) := by omega
              have j1 : (j : Int) < (src.length : Int) := by omega
              by_cases hz10 : z = 10
              · have HRN : Hid (k + runOf lineP (src.drop k) = j) := (run_at hkj hj HAL.out (fun y hy => by rw [hz] at hy; injection hy with hy; subst hy; rw [hz10]; decide)).2
                rw [hz10] at hcz
                have hcz' : wr.cell? ⟨b, o + j, none⟩ = some (.int .u8 10) := hcz
                have hkj1 : k < j := by
                  rcases Nat.lt_or_ge k j with h | h
                  · exact h
                  · obtain rfl : k = j := by omega
                    have := hl59 z hz
                    rw [hz10] at this
                    exact absurd this (by decide)
                clear hz10 hcz hz
                go_wp2
                go_roundw
                case rel => exact ⟨j, L, a', c', hj, rfl, rfl, HR.out, by omega, by rw [HW.out, HST.out, HRN.out], HB.out⟩
                case measure => (simp [intOf]; omega)
              · have zn : ¬ (z.toNat : Int) = 10 := fun h => hz10 (byteN.1 (by rw [h]; rfl))
                have HA2 : Hid (∀ i y, k ≤ i → i < j + 1 → src[i]? = some y → lineP y = true) := fun i y h1 h2 hy => by
                  rcases Nat.lt_or_ge i j with h | h
                  · exact HAL.out i y h1 h hy
                  · obtain rfl : i = j := by omega
                    rw [hz] at hy
                    injection hy with hy
                    subst hy
                    unfold lineP
                    simpa using hz10
                clear hz10 hz
                go_wp2
                go_roundw
                case rel => exact ⟨j + 1, by omega, by omega, by go_num, HA2.out, (by first | rfl | trivial)⟩
                case measure => (simp [intOf]; omega)
            · obtain rfl : j = src.length := by omega
              have j1 : ¬ (src.length : Int) < (src.length : Int) := by omega
              have HRN : Hid (k + runOf lineP (src.drop k) = src.length) := (run_at hkj hj HAL.out (fun y hy => by rw [List.getElem?_eq_none (Nat.le_refl _)] at hy; cases hy)).2
              go_wp2
              go_roundw
              case rel => exact ⟨src.length, L, a', c', hj, rfl, rfl, HR.out, by omega, by rw [HW.out, HST.out, HRN.out], HB.out⟩
              case measure => (simp [intOf]; omega)
        · rw [if_neg h2] at hstep
          have n5 : ((x.toNat : Int) == 59) = false := beqF fun h => h2 (byteN.1 (by rw [h]; rfl))
          by_cases h3 : x = 40
          · rw [if_pos h3] at hstep
            have HS : Hid (wordsOf src = (L ++ [⟨1, k, [], 0⟩]) ++ wordsAt src (k + 1)) := show _ = _ from by rw [HW.out, hstep]; simp
            rw [h3] at hc
            have hc' : wr.cell? ⟨b, o + k, none⟩ = some (.int .u8 40) := hc
            clear hstep hwi h2 h3 hc n1 n2 n3 n4 n5
            go_wp2_with (at_builtin; refine wpList_append_any (by rfl) (.tmp 113) (.tmp 116) 40 (by rfl) w.heap.size 72 _ 4 40 Tryz.underlying40 infoWd (by rfl) (by omega) _ L.length _ (by rfl) (own_bel HR.out ((Below.refl _ _).alloc (Nat.le_refl _) _)) (some ⟨wr.heap.size, 0, none⟩) 1 1 (by rfl) (wdV ⟨1, k, [], 0⟩) (by rfl) (fun e => by cases e) (news_new _ _ _ _ rfl) (wdV_one _) (by unfold maxLen; omega) (by omega) (by simp; omega) ?_; intro a3 c3 w3 ho3 hg3 hl3)
            have HB3 := hidX ((HB.out.alloc hsz _).grown hg3.out (by simp; omega) (fun j hj => (HR.out.lt j hj).1))
            go_wp2
            go_roundw
            case rel => exact ⟨k + 1, L ++ [⟨1, k, [], 0⟩], a3, c3, by omega, by go_num, by simp, own_wds ho3.out rfl (by simp), by simp; omega, HS.out, HB3.out⟩
            case measure => (simp [intOf]; omega)
          · rw [if_neg h3] at hstep
            have n6 : ((x.toNat : Int) == 40) = false := beqF fun h => h3 (byteN.1 (by rw [h]; rfl))
            by_cases h4 : x = 41
            · rw [if_pos h4] at hstep
              have HS : Hid (wordsOf src = (L ++ [⟨2, k, [], 0⟩]) ++ wordsAt src (k + 1)) := show _ = _ from by rw [HW.out, hstep]; simp
              rw [h4] at hc
              have hc' : wr.cell? ⟨b, o + k, none⟩ = some (.int .u8 41) := hc
              clear hstep hwi h2 h3 h4 hc n1 n2 n3 n4 n5 n6
              go_wp2_with (at_builtin; refine wpList_append_any (by rfl) (.tmp 123) (.tmp 126) 40 (by rfl) w.heap.size 72 _ 4 40 Tryz.underlying40 infoWd (by rfl) (by omega) _ L.length _ (by rfl) (own_bel HR.out ((Below.refl _ _).alloc (Nat.le_refl _) _)) (some ⟨wr.heap.size, 0, none⟩) 1 1 (by rfl) (wdV ⟨2, k, [], 0⟩) (by rfl) (fun e => by cases e) (news_new _ _ _ _ rfl) (wdV_one _) (by unfold maxLen; omega) (by omega) (by simp; omega) ?_; intro a3 c3 w3 ho3 hg3 hl3)
              have HB3 := hidX ((HB.out.alloc hsz _).grown hg3.out (by simp; omega) (fun j hj => (HR.out.lt j hj).1))
              go_wp2
              go_roundw
              case rel => exact ⟨k + 1, L ++ [⟨2, k, [], 0⟩], a3, c3, by omega, by go_num, by simp, own_wds ho3.out rfl (by simp), by simp; omega, HS.out, HB3.out⟩
              case measure => (simp [intOf]; omega)
            · rw [if_neg h4] at hstep
              have n7 : ((x.toNat : Int) == 41) = false := beqF fun h => h4 (byteN.1 (by rw [h]; rfl))
              by_cases h5 : x.toNat < 33 ∨ 126 < x.toNat
              · rw [if_pos h5] at hstep
                have HS : Hid (wordsOf src = (L ++ [⟨7, k, [], 0⟩]) ++ wordsAt src (k + 1)) := show _ = _ from by rw [HW.out, hstep]; simp
                clear hstep hwi h2 h3 h4
                rcases (show (x.toNat : Int) < 33 ∨ (¬ (x.toNat : Int) < 33 ∧ (126 : Int) < (x.toNat : Int)) by omega) with g | ⟨g, g'⟩
                all_goals
                  clear h5
                  go_wp2_with (at_builtin; refine wpList_append_any (by rfl) (.tmp 137) (.tmp 140) 40 (by rfl) w.heap.size 72 _ 4 40 Tryz.underlying40 infoWd (by rfl) (by omega) _ L.length _ (by rfl) (own_bel HR.out ((Below.refl _ _).alloc (Nat.le_refl _) _)) (some ⟨wr.heap.size, 0, none⟩) 1 1 (by rfl) (wdV ⟨7, k, [], 0⟩) (by rfl) (fun e => by cases e) (news_new _ _ _ _ rfl) (wdV_one _) (by unfold maxLen; omega) (by omega) (by simp; omega) ?_; intro a3 c3 w3 ho3 hg3 hl3)
                  have HB3 := hidX ((HB.out.alloc hsz _).grown hg3.out (by simp; omega) (fun j hj => (HR.out.lt j hj).1))
                  go_wp2
                  go_roundw
                  case rel => exact ⟨k + 1, L ++ [⟨7, k, [], 0⟩], a3, c3, by omega, by go_num, by simp, own_wds ho3.out rfl (by simp), by simp; omega, HS.out, HB3.out⟩
                  case measure => (simp [intOf]; omega)
              · rw [if_neg h5] at hstep
                have HST := hidX hstep
                have g1 : ¬ (x.toNat : Int) < 33 := by omega
                have g2 : ¬ (126 : Int) < (x.toNat : Int) := by omega
                have hw0 : wordB x = true := wordB_of h2 h3 h4 h5
                have HW0 : Hid (∀ z, src[k]? = some z → wordB z = true) := fun z hz => by
                  rw [HX.out] at hz
                  injection hz with hz
                  subst hz
                  exact hw0
                clear hstep hwi h2 h3 h4 h5 hw0
                obtain ⟨wo, hwo⟩ : ∃ u, u = wr := ⟨wr, rfl⟩
                rw [← hwo] at HR HB hsz hc ⊢
                have hHV := HV.out.below HB.out
                clear hwo
                go_wp2
                go_loopw [4] (fun iv wq => ∃ j : Nat, k ≤ j ∧ j ≤ src.length ∧ iv = .int .i64 (j : Int) ∧ (∀ i z, k ≤ i → i < j → src[i]? = some z → wordB z = true) ∧ wq = wo) (fun iv _ => src.length - (intOf iv).toNat)
                case atStart => exact ⟨k, Nat.le_refl _, by omega, rfl, fun i z h1 h2 => by omega, rfl⟩
                case round =>
                  obtain ⟨j, hkj, hj, rfl, hal, rfl⟩ := hrel
                  have HAL := hidX hal
                  clear hal hc
                  by_cases hjl : j < src.length
                  · obtain ⟨z, hz⟩ : ∃ z, src[j]? = some z := ⟨src[j], by simp [hjl]⟩
                    obtain ⟨b2, o2, ea, _, hcz⟩ := hHV j z hz
                    simp only [Option.some.injEq, Addr.mk.injEq, and_true] at ea
                    obtain ⟨rfl, rfl⟩ := ea
                    have j0 : (0 : Int) ≤ (j : Int) := by omega
                    have j1 : (j : Int) < (src.length : Int) := by omega
                    have hzi := word_int z
                    by_cases hzw : wordB z = true
                    · obtain ⟨q1, q2, q3, q4, q5⟩ := hzi.1 hzw
                      have r3 := beqF q3
                      have r4 := beqF q4
                      have r5 := beqF q5
                      have r3' : ((z.toNat : Int) != 40) = true := by simpa using q3
                      have r4' : ((z.toNat : Int) != 41) = true := by simpa using q4
                      have r5' : ((z.toNat : Int) != 59) = true := by simpa using q5
                      have HA2 : Hid (∀ i y, k ≤ i → i < j + 1 → src[i]? = some y → wordB y = true) := fun i y h1 h2 hy => by
                        rcases Nat.lt_or_ge i j with h | h
                        · exact HAL.out i y h1 h hy
                        · obtain rfl : i = j := by omega
                          rw [hz] at hy
                          injection hy with hy
                          subst hy
                          exact hzw
                      clear hzi hzw hz q3 q4 q5
                      go_wp2
                      go_roundw
                      case rel => exact ⟨j + 1, by omega, by omega, by go_num, HA2.out, (by first | rfl | trivial)⟩
                      case measure => (simp [intOf]; omega)
                    · have hzf : wordB z = false := by simpa using hzw
                      obtain ⟨hRN1, hRN2⟩ := run_at hkj hj HAL.out (fun y hy => by rw [hz] at hy; injection hy with hy; subst hy; exact hzf)
                      have hkj1 : k < j := by
                        rcases Nat.lt_or_ge k j with h | h
                        · exact h
                        · obtain rfl : k = j := by omega
                          have := HW0.out z hz
                          rw [hzf] at this
                          cases this
                      have hq : ¬ (32 : Int) < (z.toNat : Int) ∨ ((32 : Int) < (z.toNat : Int) ∧ ¬ (z.toNat : Int) < 127) ∨ ((32 : Int) < (z.toNat : Int) ∧ (z.toNat : Int) < 127 ∧ (z.toNat : Int) = 40) ∨ ((32 : Int) < (z.toNat : Int) ∧ (z.toNat : Int) < 127 ∧ (z.toNat : Int) = 41) ∨ ((32 : Int) < (z.toNat : Int) ∧ (z.toNat : Int) < 127 ∧ (z.toNat : Int) = 59) := by
                        have hnw : ¬ ((32 : Int) < (z.toNat : Int) ∧ (z.toNat : Int) < 127 ∧ ¬ (z.toNat : Int) = 40 ∧ ¬ (z.toNat : Int) = 41 ∧ ¬ (z.toNat : Int) = 59) := fun h => hzw (hzi.2 h)
                        omega
                      have HRN1 := hidX hRN1
                      have HRN2 := hidX hRN2
                      clear hzi hzw hzf hz hRN1 hRN2
                      rcases hq with q1 | ⟨q1, q2⟩ | ⟨q1, q2, q3⟩ | ⟨q1, q2, q3⟩ | ⟨q1, q2, q3⟩
                      all_goals
                        try (rw [q3] at hcz; clear q3)
                        have HTX : Hid (wordsOf src = (L ++ [⟨mkind ((src.drop k).take (j - k)), k, (src.drop k).take (j - k), mnum ((src.drop k).take (j - k))⟩]) ++ wordsAt src j) := show _ = _ from by rw [HW.out, HST.out, HRN1.out, HRN2.out]; simp
                        obtain ⟨T, hT⟩ : ∃ T, T = (src.drop k).take (j - k) := ⟨_, rfl⟩
                        have hTl : T.length = j - k := by rw [hT, List.length_take, List.length_drop]; omega
                        have hcv := conv_word src wr b o (c - k) k j hHV hkj hj
                        rw [← hT] at HTX hcv
                        have s1 : (k : Int) ≤ (j : Int) := by omega
                        have s2 : (j : Int) ≤ (c : Int) := by omega
                        have HLK := hidX (fun w' => l2Kind_any (mkS T) w' (by rw [mkS_size]; omega) (by rw [mkS_size]; omega))
                        clear hT hHV
                        go_upto_region 9 with fail
                        refine lift_alloc ?_
                        intro wb hWb hqb
                        have hgl : wr.heap.size < wb.heap.size := lt_of_block' hqb
                        have d2 : wb.cell? ⟨wr.heap.size, 2, none⟩ = some (.string (mkS T)) := by simp [World.cell?, hqb]
                        have HQB := hidX hqb
                        clear hqb hcv
                        go_upto_region 10 with (go_at_call 33; refine (HLK.out _).mono ?_; rintro e w1 ⟨rfl, hb1⟩; rw [bs_mkS]; have hq1 := (hb1.block _ hgl).trans HQB.out; have p0 : w1.cell? ⟨wr.heap.size, 0, none⟩ = some (.int .i64 0) := (by simp [World.cell?, hq1]); have p3 : w1.cell? ⟨wr.heap.size, 3, none⟩ = some (.int .i64 0) := (by simp [World.cell?, hq1]); have z0 : w1.frozen? ⟨wr.heap.size, 0, none⟩ = false := (by simp [World.frozen?, hq1]); have z3 : w1.frozen? ⟨wr.heap.size, 3, none⟩ = false := (by simp [World.frozen?, hq1]))
                        refine lift_03 hq1 ?_
                        intro wt hqt hbt
                        have HWT := hidX (show Below wr.heap.size wr wt from hWb.trans ((hb1.mono hWb.size).trans hbt))
                        have hst := HWT.out.size
                        have t0 : wt.cell? ⟨wr.heap.size, 0, none⟩ = some (.int .i64 (mkind T)) := by simp [World.cell?, hqt]
                        have t1 : wt.cell? ⟨wr.heap.size, 1, none⟩ = some (.int .i64 (k : Int)) := by simp [World.cell?, hqt]
                        have t2 : wt.cell? ⟨wr.heap.size, 2, none⟩ = some (.string (mkS T)) := by simp [World.cell?, hqt]
                        have t3 : wt.cell? ⟨wr.heap.size, 3, none⟩ = some (.int .i64 (mnum T)) := by simp [World.cell?, hqt]
                        have hgt : wr.heap.size < wt.heap.size := lt_of_block' hqt
                        clear hqt hbt hq1 p0 p3 z0 z3 d2 hb1 hWb
                        go_wp2_with (at_builtin; refine wpList_append_any (by rfl) (.tmp 73) (.tmp 75) 40 (by rfl) w.heap.size 72 _ 4 40 Tryz.underlying40 infoWd (by rfl) (by omega) _ L.length _ (by rfl) (own_bel (own_bel HR.out HWT.out) ((Below.refl _ _).alloc (Nat.le_refl _) _)) (some ⟨wt.heap.size, 0, none⟩) 1 1 (by rfl) (wdV ⟨mkind T, k, T, mnum T⟩) (by rfl) (fun e => by cases e) (news_new _ _ _ _ rfl) (wdV_one _) (by unfold maxLen; omega) (by omega) (by simp; omega) ?_; intro a3 c3 w3 ho3 hg3 hl3)
                        have HB3 := hidX (((HB.out.trans (HWT.out.mono hsz)).alloc (by omega) _).grown hg3.out (by simp; omega) (fun q hq => (HR.out.lt q hq).1))
                        go_wp2
                        go_roundw
                        case rel => exact ⟨j, L ++ [⟨mkind T, k, T, mnum T⟩], a3, c3, hj, rfl, by simp, own_wds ho3.out rfl (by simp), by simp; omega, HTX.out, HB3.out⟩
                        case measure => (simp [intOf]; omega)
                  · obtain rfl : j = src.length := by omega
                    have j1 : ¬ (src.length : Int) < (src.length : Int) := by omega
                    obtain ⟨hRN1, hRN2⟩ := run_at hkj hj HAL.out (fun y hy => by rw [List.getElem?_eq_none (Nat.le_refl _)] at hy; cases hy)
                    have HRN1 := hidX hRN1
                    have HRN2 := hidX hRN2
                    have hkj1 : k < src.length := hkl
                    clear hRN1 hRN2
                    have HTX : Hid (wordsOf src = (L ++ [⟨mkind ((src.drop k).take (src.length - k)), k, (src.drop k).take (src.length - k), mnum ((src.drop k).take (src.length - k))⟩]) ++ wordsAt src src.length) := show _ = _ from by rw [HW.out, HST.out, HRN1.out, HRN2.out]; simp
                    obtain ⟨T, hT⟩ : ∃ T, T = (src.drop k).take (src.length - k) := ⟨_, rfl⟩
                    have hTl : T.length = src.length - k := by rw [hT, List.length_take, List.length_drop]; omega
                    have hcv := conv_word src wr b o (c - k) k src.length hHV hkj hj
                    rw [← hT] at HTX hcv
                    have s1 : (k : Int) ≤ (src.length : Int) := by omega
                    have s2 : (src.length : Int) ≤ (c : Int) := by omega
                    have HLK := hidX (fun w' => l2Kind_any (mkS T) w' (by rw [mkS_size]; omega) (by rw [mkS_size]; omega))
                    clear hT hHV
                    go_upto_region 9 with fail
                    refine lift_alloc ?_
                    intro wb hWb hqb
                    have hgl : wr.heap.size < wb.heap.size := lt_of_block' hqb
                    have d2 : wb.cell? ⟨wr.heap.size, 2, none⟩ = some (.string (mkS T)) := by simp [World.cell?, hqb]
                    have HQB := hidX hqb
                    clear hqb hcv
                    go_upto_region 10 with (go_at_call 33; refine (HLK.out _).mono ?_; rintro e w1 ⟨rfl, hb1⟩; rw [bs_mkS]; have hq1 := (hb1.block _ hgl).trans HQB.out; have p0 : w1.cell? ⟨wr.heap.size, 0, none⟩ = some (.int .i64 0) := (by simp [World.cell?, hq1]); have p3 : w1.cell? ⟨wr.heap.size, 3, none⟩ = some (.int .i64 0) := (by simp [World.cell?, hq1]); have z0 : w1.frozen? ⟨wr.heap.size, 0, none⟩ = false := (by simp [World.frozen?, hq1]); have z3 : w1.frozen? ⟨wr.heap.size, 3, none⟩ = false := (by simp [World.frozen?, hq1]))
                    refine lift_03 hq1 ?_
                    intro wt hqt hbt
                    have HWT := hidX (show Below wr.heap.size wr wt from hWb.trans ((hb1.mono hWb.size).trans hbt))
                    have hst := HWT.out.size
                    have t0 : wt.cell? ⟨wr.heap.size, 0, none⟩ = some (.int .i64 (mkind T)) := by simp [World.cell?, hqt]
                    have t1 : wt.cell? ⟨wr.heap.size, 1, none⟩ = some (.int .i64 (k : Int)) := by simp [World.cell?, hqt]
                    have t2 : wt.cell? ⟨wr.heap.size, 2, none⟩ = some (.string (mkS T)) := by simp [World.cell?, hqt]
                    have t3 : wt.cell? ⟨wr.heap.size, 3, none⟩ = some (.int .i64 (mnum T)) := by simp [World.cell?, hqt]
                    have hgt : wr.heap.size < wt.heap.size := lt_of_block' hqt
                    clear hqt hbt hq1 p0 p3 z0 z3 d2 hb1 hWb
                    go_wp2_with (at_builtin; refine wpList_append_any (by rfl) (.tmp 73) (.tmp 75) 40 (by rfl) w.heap.size 72 _ 4 40 Tryz.underlying40 infoWd (by rfl) (by omega) _ L.length _ (by rfl) (own_bel (own_bel HR.out HWT.out) ((Below.refl _ _).alloc (Nat.le_refl _) _)) (some ⟨wt.heap.size, 0, none⟩) 1 1 (by rfl) (wdV ⟨mkind T, k, T, mnum T⟩) (by rfl) (fun e => by cases e) (news_new _ _ _ _ rfl) (wdV_one _) (by unfold maxLen; omega) (by omega) (by simp; omega) ?_; intro a3 c3 w3 ho3 hg3 hl3)
                    have HB3 := hidX (((HB.out.trans (HWT.out.mono hsz)).alloc (by omega) _).grown hg3.out (by simp; omega) (fun q hq => (HR.out.lt q hq).1))
                    go_wp2
                    go_roundw
                    case rel => exact ⟨src.length, L ++ [⟨mkind T, k, T, mnum T⟩], a3, c3, hj, rfl, by simp, own_wds ho3.out rfl (by simp), by simp; omega, HTX.out, HB3.out⟩
                    case measure => (simp [intOf]; omega)
    · obtain rfl : k = src.length := by omega
      have k1 : ¬ (src.length : Int) < (src.length : Int) := by omega
      have HS : Hid (wordsOf src = L ++ [⟨0, src.length, [], 0⟩]) := show _ = _ from by rw [HW.out, wordsAt_end]
      go_wp2_with (at_builtin; refine wpList_append_any (by rfl) (.tmp 144) (.tmp 148) 40 (by rfl) w.heap.size 72 _ 4 40 Tryz.underlying40 infoWd (by rfl) (by omega) _ L.length _ (by rfl) (own_bel HR.out ((Below.refl _ _).alloc (Nat.le_refl _) _)) (some ⟨wr.heap.size, 0, none⟩) 1 1 (by rfl) (wdV ⟨0, src.length, [], 0⟩) (by rfl) (fun e => by cases e) (news_new _ _ _ _ rfl) (wdV_one _) (by unfold maxLen; omega) (by omega) (by simp; omega) ?_; intro a3 c3 w3 ho3 hg3 hl3)
      have HB3 := hidX ((HB.out.alloc hsz _).grown hg3.out (by simp; omega) (fun j hj => (HR.out.lt j hj).1))
      go_wp2
      go_ret
      have e : (wordsOf src).length = L.length + 1 := by rw [HS.out]; simp
      exact ⟨⟨a3, c3, by rw [e]; rfl, own_wds ho3.out HS.out e⟩, HB3.out⟩
end Go.Proofs.YtdhpoagjmiligaaGreatDoor

namespace Go.Proofs.YtdhpoagjmiligaaGreatDoor
open Go.RowKit
attribute [local go_sem ↓] Go.wp_at_zero Go.wp_at_succ

set_option maxHeartbeats 800000 in
theorem isBlank_any (b : UInt8) (w : World) : Calls Tryz.prog 121 #[.int .u8 (b.toNat : Int)] w fun e w' => e = .returned (.bool (blankB b)) ∧ w' = w := by
  have hbi := blank_int b
  by_cases h : blankB b = true
  · have HB := hidX h
    rcases hbi.1 h with h1 | h1 | h1 | h1
    all_goals
      clear hbi h
      rw [h1]
      go_enter Tryz.func121, Tryz.ntmps121
      go_wp2
      go_ret
      exact ⟨by rw [HB.out]; rfl, rfl⟩
  · have nb : ¬ ((b.toNat : Int) = 32 ∨ (b.toNat : Int) = 9 ∨ (b.toNat : Int) = 10 ∨ (b.toNat : Int) = 13) := fun g => h (hbi.2 g)
    have n1 : ((b.toNat : Int) == 32) = false := beqF fun h => nb (.inl h)
    have n2 : ((b.toNat : Int) == 9) = false := beqF fun h => nb (.inr (.inl h))
    have n3 : ((b.toNat : Int) == 10) = false := beqF fun h => nb (.inr (.inr (.inl h)))
    have n4 : ((b.toNat : Int) == 13) = false := beqF fun h => nb (.inr (.inr (.inr h)))
    have HB : Hid (blankB b = false) := show _ = _ from by simpa using h
    clear hbi nb h
    go_enter Tryz.func121, Tryz.ntmps121
    go_wp2
    go_ret
    exact ⟨by rw [HB.out]; rfl, rfl⟩
set_option maxHeartbeats 800000 in
theorem inWord_any (b : UInt8) (w : World) : Calls Tryz.prog 116 #[.int .u8 (b.toNat : Int)] w fun e w' => e = .returned (.bool (wordB b)) ∧ w' = w := by
  have hwi := word_int b
  by_cases h : wordB b = true
  · obtain ⟨q1, q2', q3, q4, q5⟩ := hwi.1 h
    have q2 : (b.toNat : Int) ≤ 126 := by omega
    have HB := hidX h
    have r3' : ((b.toNat : Int) != 40) = true := by simpa using q3
    have r4' : ((b.toNat : Int) != 41) = true := by simpa using q4
    have r5' : ((b.toNat : Int) != 59) = true := by simpa using q5
    clear hwi h q2' q3 q4 q5
    go_enter Tryz.func116, Tryz.ntmps116
    go_wp2
    go_ret
    exact ⟨by rw [HB.out]; rfl, rfl⟩
  · have hq : ¬ (32 : Int) < (b.toNat : Int) ∨ ((32 : Int) < (b.toNat : Int) ∧ ¬ (b.toNat : Int) ≤ 126) ∨ (b.toNat : Int) = 40 ∨ (b.toNat : Int) = 41 ∨ (b.toNat : Int) = 59 := by
      have hnw : ¬ ((32 : Int) < (b.toNat : Int) ∧ (b.toNat : Int) < 127 ∧ ¬ (b.toNat : Int) = 40 ∧ ¬ (b.toNat : Int) = 41 ∧ ¬ (b.toNat : Int) = 59) := fun g => h (hwi.2 g)
      omega
    have HB : Hid (wordB b = false) := show _ = _ from by simpa using h
    clear hwi h
    rcases hq with q1 | ⟨q1, q2⟩ | q3 | q3 | q3
    all_goals
      try (rw [q3]; clear q3)
      go_enter Tryz.func116, Tryz.ntmps116
      go_wp2
      go_ret
      exact ⟨by rw [HB.out]; rfl, rfl⟩
theorem isAr_mem (b : UInt8) : isAr (b.toNat : Int) = decide ([b] ∈ arTx) := by
  have key : ∀ n : Fin 256, isAr ((n.val : Nat) : Int) = decide ([UInt8.ofNat n.val] ∈ arTx) := by decide +kernel
  have h := key ⟨b.toNat, UInt8.toNat_lt b⟩
  simpa using h
/-- Which test a text is. -/
def testIx (s : Bs) : Nat := if s = [61] then 1 else if s = [33, 61] then 2 else if s = [60] then 3 else if s = [62] then 4 else if s = [60, 61] then 5 else if s = [62, 61] then 6 else 0
theorem testIx_hit {t : Bs} {n : Nat} (h1 : 1 ≤ n) (h2 : n ≤ 6) (h : opTx.getD (n - 1) [] = t) : testIx t = n := by
  subst h
  rcases (show n = 1 ∨ n = 2 ∨ n = 3 ∨ n = 4 ∨ n = 5 ∨ n = 6 by omega) with rfl | rfl | rfl | rfl | rfl | rfl <;> rfl
theorem testIx_none {t : Bs} (h : ∀ j, j < 6 → ¬ opTx.getD j [] = t) : testIx t = 0 := by
  have h0 := h 0 (by decide)
  have h1 := h 1 (by decide)
  have h2 := h 2 (by decide)
  have h3 := h 3 (by decide)
  have h4 := h 4 (by decide)
  have h5 := h 5 (by decide)
  unfold testIx
  rw [if_neg fun e => h0 e.symm, if_neg fun e => h1 e.symm, if_neg fun e => h2 e.symm, if_neg fun e => h3 e.symm, if_neg fun e => h4 e.symm, if_neg fun e => h5 e.symm]
theorem str_beq (a b : Bs) : ((mkS a).toList == (mkS b).toList) = decide (a = b) := by
  have h : (mkS b).toList = b := by rw [ByteArray.toList_eq]; rfl
  rw [h, beq_lit, bs_mkS]
set_option maxHeartbeats 1600000 in
theorem testOf_any (t : Bs) (w : World) (hT : TestsAt w 1 1) : Calls Tryz.prog 126 #[.string (mkS t)] w fun e w' => e = .returned (.int .i64 (testIx t : Int)) ∧ w' = w := by
  have HT := hidX hT
  clear hT
  go_enter Tryz.func126, Tryz.ntmps126
  go_wp2
  go_loopw [3] (fun iv wr => ∃ n : Nat, 1 ≤ n ∧ n ≤ 7 ∧ iv = .int .i64 (n : Int) ∧ (∀ j, j < n - 1 → ¬ opTx.getD j [] = t) ∧ wr = w) (fun iv _ => 7 - (intOf iv).toNat)
  case atStart => exact ⟨1, by omega, by omega, rfl, fun j hj => by omega, rfl⟩
  case round =>
    obtain ⟨n, h1, h7, rfl, hno, rfl⟩ := hrel
    have HN := hidX hno
    clear hno
    by_cases h6 : n ≤ 6
    · have k0 : (0 : Int) ≤ (n : Int) := by omega
      have k1 : (n : Int) < 7 := by omega
      have k2 : (n : Int) ≤ 6 := by omega
      obtain ⟨ob, hob⟩ : ∃ ob, ob = opTx.getD (n - 1) [] := ⟨_, rfl⟩
      have hc : wr.cell? ⟨1, n, none⟩ = some (.string (mkS ob)) := by
        have := HT.out (n - 1) (by omega)
        rw [← hob, show 1 + (n - 1) = n by omega] at this
        exact this
      have hbe := str_beq ob t
      by_cases he : ob = t
      · rw [decide_eq_true he] at hbe
        have HX : Hid (testIx t = n) := testIx_hit h1 h6 (hob ▸ he)
        clear he hob
        go_wp2
        go_ret
        exact ⟨by rw [HX.out]; rfl, rfl⟩
      · rw [decide_eq_false he] at hbe
        have HN2 : Hid (∀ j, j < n + 1 - 1 → ¬ opTx.getD j [] = t) := fun j hj => by
          rcases Nat.lt_or_ge j (n - 1) with h | h
          · exact HN.out j h
          · obtain rfl : j = n - 1 := by omega
            rw [← hob]
            exact he
        clear he hob
        go_wp2
        go_roundw
        case rel => exact ⟨n + 1, by omega, by omega, by go_num, HN2.out, (by first | rfl | trivial)⟩
        case measure => (simp [intOf]; omega)
    · obtain rfl : n = 7 := by omega
      have HX : Hid (testIx t = 0) := testIx_none HN.out
      go_wp2
      go_ret
      exact ⟨by rw [HX.out]; rfl, rfl⟩
end Go.Proofs.YtdhpoagjmiligaaGreatDoor

namespace Go.Proofs.YtdhpoagjmiligaaGreatDoor
open Go.RowKit
attribute [local go_sem ↓] Go.wp_at_zero Go.wp_at_succ

theorem trim_strip (t : Bs) : Lib.trimPrefix t [45] = stripM t := by
  unfold Lib.trimPrefix Lib.hasPrefix stripM
  cases t with
  | nil => rfl
  | cons b r =>
    by_cases h : b = 45
    · subst h
      simp
    · have h' : ¬ (45 : UInt8) = b := fun e => h e.symm
      simp [h, h']
theorem isD_dg (b : UInt8) : isD (b.toNat : Int) = isDg b := by
  unfold isD isDg
  congr 1
  · exact decide_eq_decide.2 (by omega)
  · exact decide_eq_decide.2 (by omega)
theorem below_drew1 {B : Nat} {a w : World} (h : Below B a w) : Below B a w.drew := ⟨h.os, h.tape, h.output, h.size, h.block⟩
theorem strip_len (t : Bs) : (stripM t).length ≤ t.length := by
  unfold stripM
  split
  · simp
  · exact Nat.le_refl _

set_option maxHeartbeats 3200000 in
theorem numberOf_any (t : Bs) (w : World) (hl : t.length ≤ 20000) (tp : TypeId) (p : Value) (hvar : w.var? Tryz.prog "strconv.ErrRange" = some #[.iface tp p]) : Calls Tryz.prog 123 #[.string (mkS t)] w (IPost t w) := by
  have HVAR := hidX hvar
  clear hvar
  have hz := beq_lit (mkS t) [48]
  rw [bs_mkS] at hz
  by_cases h0 : t = [48]
  · rw [decide_eq_true h0] at hz
    have HN : Hid (numOf t = some 0) := show _ = _ from by rw [h0]; exact numOf_zero
    clear h0
    go_enter Tryz.func123, Tryz.ntmps123
    go_wp2
    go_ret2
    exact ⟨0, true, rfl, HN.out, Below.refl _ _⟩
  · rw [decide_eq_false h0] at hz
    obtain ⟨S, hS⟩ : ∃ S : ByteArray, S = mkS (stripM t) := ⟨_, rfl⟩
    have hD : bsOf S = stripM t := by rw [hS, bs_mkS]
    have HTP : Hid (∀ w', Calls Tryz.prog 130 #[.string (mkS t), .string ⟨#[45]⟩] w' fun e w1 => e = .returned (.string S) ∧ w1 = w') := fun w' => (Tryz.strings_TrimPrefix (mkS t) ⟨#[45]⟩ w').mono fun e w1 h => ⟨by rw [h.1, hS, ← trim_strip]; rfl, h.2⟩
    have hsz : S.size ≤ 20000 := by rw [← bs_length, hD]; exact Nat.le_trans (strip_len t) hl
    clear hS
    have he := beq_lit S []
    by_cases hnil : bsOf S = []
    · rw [decide_eq_true hnil] at he
      have HN : Hid (numOf t = none) := numOf_bad1 h0 (.inl (hD ▸ hnil))
      clear h0 hD hnil
      go_enter Tryz.func123, Tryz.ntmps123
      go_wp2_with (go_at_call 130; refine (HTP.out _).mono ?_; rintro e w1 ⟨rfl, hw⟩; rw [hw]; clear hw w1)
      go_ret2
      exact IPost.no 0 rfl HN.out (Below.refl _ _)
    · rw [decide_eq_false hnil] at he
      have hs0 : 0 < S.size := by
        rw [← bs_length]
        exact List.length_pos_iff.2 hnil
      have j0 : (0 : Int) < (S.size : Int) := by omega
      have hhd := bs_head S hs0
      by_cases h48 : S[0] = 48
      · have hb : ((S[0].toNat : Int) == 48) = true := by rw [h48]; rfl
        have HN : Hid (numOf t = none) := numOf_bad1 h0 (.inr (by rw [← hD, hhd, h48]))
        clear h0 hD hnil h48 hhd
        go_enter Tryz.func123, Tryz.ntmps123
        go_wp2_with (go_at_call 130; refine (HTP.out _).mono ?_; rintro e w1 ⟨rfl, hw⟩; rw [hw]; clear hw w1)
        go_ret2
        exact IPost.no 0 rfl HN.out (Below.refl _ _)
      · have hb : ((S[0].toNat : Int) == 48) = false := beqF fun e => h48 (byteN.1 (by rw [e]; rfl))
        have HNN : Hid (stripM t ≠ [] ∧ (stripM t).head? ≠ some 48) := show _ ∧ _ from by rw [← hD, hhd]; exact ⟨hnil, fun e => h48 (by injection e)⟩
        have HDD := hidX hD
        clear h0 hD hnil h48 hhd
        go_enter Tryz.func123, Tryz.ntmps123
        go_wp2_with (go_at_call 130; refine (HTP.out _).mono ?_; rintro e w1 ⟨rfl, hw⟩; rw [hw]; clear hw w1)
        go_loop [21] (fun iv => ∃ k : Nat, k ≤ S.size ∧ iv = .int .i64 (k : Int) ∧ ((bsOf S).take k).all isDg = true) (fun iv => S.size - (intOf iv).toNat)
        case atStart => exact ⟨0, by omega, rfl, by simp⟩
        case round =>
          obtain ⟨k, hk, rfl, hall⟩ := hrel
          have HALL := hidX hall
          clear hall hb he
          by_cases hkl : k < S.size
          · have k0 : (0 : Int) ≤ (k : Int) := by omega
            have k1 : (k : Int) < (S.size : Int) := by omega
            have hkb : k < (bsOf S).length := by rw [bs_length]; exact hkl
            have eb : (bsOf S)[k] = S[k] := byte_at S k hkl
            have hdv := isD_dg S[k]
            by_cases hd : isDg S[k] = true
            · have HID : Hid (∀ w', Calls Tryz.prog 131 #[.int .u8 (S[k].toNat : Int)] w' fun e w1 => e = .returned (.bool true) ∧ w1 = w') := fun w' => (isDigit_any _ w').mono fun e w1 h => ⟨by rw [h.1, hdv, hd], h.2⟩
              have HA2 : Hid (((bsOf S).take (k + 1)).all isDg = true) := all_take_step hkb HALL.out (by rw [eb]; exact hd)
              clear eb hd hdv
              go_wp2_with (go_at_call 131; refine (HID.out _).mono ?_; rintro e w1 ⟨rfl, hw⟩; rw [hw]; clear hw w1)
              refine ⟨⟨k + 1, by omega, by go_num, HA2.out⟩, ?_⟩
              simp [intOf]
              omega
            · have hdf : isDg S[k] = false := by simpa using hd
              have HID : Hid (∀ w', Calls Tryz.prog 131 #[.int .u8 (S[k].toNat : Int)] w' fun e w1 => e = .returned (.bool false) ∧ w1 = w') := fun w' => (isDigit_any _ w').mono fun e w1 h => ⟨by rw [h.1, hdv, hdf], h.2⟩
              have HN : Hid (numOf t = none) := numOf_bad2 (by
                rw [← HDD.out]
                exact List.all_eq_false.2 ⟨(bsOf S)[k], List.getElem_mem hkb, by rw [eb]; simpa using hdf⟩)
              clear eb hd hdf hdv
              go_wp2_with (go_at_call 131; refine (HID.out _).mono ?_; rintro e w1 ⟨rfl, hw⟩; rw [hw]; clear hw w1)
              go_ret2
              exact IPost.no 0 rfl HN.out (Below.refl _ _)
          · obtain rfl : k = S.size := by omega
            have k1 : ¬ (S.size : Int) < (S.size : Int) := by omega
            have h3 : (stripM t).all isDg = true := by
              have := HALL.out
              rw [List.take_of_length_le (by rw [bs_length]; exact Nat.le_refl _), HDD.out] at this
              exact this
            rcases numOf_good HNN.out.1 HNN.out.2 h3 with ⟨v, hp, hn⟩ | ⟨hp, hn⟩
            · have HP := hidX (Tryz.strconv_ParseInt_10_at64_ok (mkS t) (by rw [mkS_size]; omega) v hp)
              have HN := hidX hn
              clear hp hn h3
              go_wp2_with (go_at_call 132; refine (HP.out _).mono ?_; rintro e w1 ⟨rfl, hw1⟩; have hb1 : Below w.heap.size w w1 := (by rcases hw1 with rfl | ⟨u, rfl⟩ <;> first | exact Below.refl _ _ | exact Lib.bytesWorld_below _ _ _); clear hw1)
              go_region
              go_wp2
              go_ret2
              exact ⟨v, true, rfl, HN.out, below_drew1 hb1⟩
            · have HP := hidX (Tryz.strconv_ParseInt_10_at64_range_var (mkS t) (by rw [mkS_size]; omega) hp tp p w HVAR.out)
              have HN := hidX hn
              clear hp hn h3
              go_wp2_with (go_at_call 132; refine HP.out.mono ?_; rintro e w1 ⟨N, rfl, _, _, hb1⟩)
              go_region
              go_wp2
              go_ret2
              exact IPost.no _ rfl HN.out (below_drew1 hb1)
end Go.Proofs.YtdhpoagjmiligaaGreatDoor

namespace Go.Proofs.YtdhpoagjmiligaaGreatDoor
open Go.RowKit
attribute [local go_sem ↓] Go.wp_at_zero Go.wp_at_succ

theorem errNamed : Tryz.prog.globalNamed "strconv.ErrRange" = some 4 := by kernel_rfl
/-- The library's error of numbers that are too great lies in its variable. -/
def ErrAt (w : World) : Prop := ∃ tp p, w.var? Tryz.prog "strconv.ErrRange" = some #[.iface tp p]
theorem ErrAt.below {w w' : World} (h : ErrAt w) (hb : Below w.heap.size w w') : ErrAt w' := by
  obtain ⟨tp, p, h⟩ := h
  refine ⟨tp, p, var?_below hb errNamed ?_ h⟩
  by_cases hg : 4 < w.heap.size
  · exact hg
  · unfold World.var? at h
    rw [errNamed] at h
    simp only [Option.bind_some] at h
    rw [Array.getElem?_eq_none (by omega)] at h
    cases h
/-- A word's kind, as the program counts it; what it keeps of its text. -/
def pkind (t : Bs) : Int := if (numOf t).isSome then 48 else if gSym t then 97 else if isVarW t then 63 else if testIx t ≠ 0 then 61 else if t ∈ arTx then 43 else if t = [95] then 95 else if t = [61, 62] then 62 else -1
def ptext (t : Bs) : Bs := if (numOf t).isSome then [] else if gSym t then t else if isVarW t then t.tail else if testIx t ≠ 0 then t else if t ∈ arTx then t else []
def pwV (k pos : Int) (t : Bs) (n : Int) : Value := .agg #[.int .i32 k, .int .i64 pos, .string (mkS t), .int .i64 n]
theorem has63 (t : Bs) : Lib.hasPrefix t [63] = decide (t.head? = some 63) := by
  unfold Lib.hasPrefix
  cases t with
  | nil => rfl
  | cons b r =>
    by_cases h : b = 63
    · subst h
      simp
    · have h' : ¬ (63 : UInt8) = b := fun e => h e.symm
      have e : ((63 : UInt8) == b) = false := by simpa using h'
      simp [List.isPrefixOf, h, e]
theorem trim63 {t : Bs} (h : t.head? = some 63) : Lib.trimPrefix t [63] = t.tail := by
  unfold Lib.trimPrefix
  rw [has63, decide_eq_true h]
  simp

def pwL (k pos : Int) (t : Bs) (n : Int) : List Value := [.int .i32 k, .int .i64 pos, .string (mkS t), .int .i64 n]
theorem pwL_one (k pos : Int) (t : Bs) (n : Int) : ∀ v ∈ pwL k pos t n, v.oneCell' = true := by
  intro u hu
  simp [pwL] at hu
  rcases hu with rfl | rfl | rfl | rfl <;> rfl
theorem infoPW : (Tryz.prog.info? 116).map (·.size) = some 4 := by kernel_rfl
theorem pk_eq {k : Int} {x t : Bs} {n : Int} (h1 : pkind t = k) (h2 : ptext t = x) (h3 : mnum t = n) : Ending.returned (.agg (pwL k 0 x n).toArray) = .returned (pwV (pkind t) 0 (ptext t) (mnum t)) := by
  rw [h1, h2, h3]
  rfl
theorem ar_one {t : Bs} (h : t ∈ arTx) : ∃ b, t = [b] := by
  simp [arTx] at h
  rcases h with h | h | h | h | h <;> exact ⟨_, h⟩
theorem isAr_at {t : Bs} (h0 : 0 < (mkS t).size) (h1 : t.length = 1) : isAr ((mkS t)[0].toNat : Int) = decide (t ∈ arTx) := by
  rw [isAr_mem]
  match t, h1 with
  | [b], _ => rfl

set_option maxRecDepth 100000 in
set_option maxHeartbeats 6400000 in
theorem wordOf_any (t : Bs) (w : World) (hl : t.length ≤ 20000) (hE : ErrAt w) (hT : TestsAt w 1 1) : Calls Tryz.prog 117 #[.string (mkS t)] w fun e w' => e = .returned (pwV (pkind t) 0 (ptext t) (mnum t)) ∧ Below w.heap.size w w' := by
  have HE := hidX hE
  have HT := hidX hT
  clear hE hT
  have hms : (mkS t).size ≤ maxLen := by rw [mkS_size]; unfold maxLen; omega
  have htl : t.tail.length ≤ t.length := by simp
  go_enter Tryz.func117, Tryz.ntmps117
  go_upto_region 1 with fail
  refine lift_alloc ?_
  intro wb hWb hqb
  have hgl : w.heap.size < wb.heap.size := lt_of_block' hqb
  have HQB := hidX hqb
  have HNO : Hid (Calls Tryz.prog 123 #[.string (mkS t)] wb (IPost t wb)) := (by
    obtain ⟨tp, p, h⟩ := HE.out.below hWb
    exact numberOf_any t wb hl tp p h)
  have HTB := hidX (HT.out.below hWb)
  clear hqb
  cases hn : numOf t with
  | some n =>
    have hmn : mnum t = n := by unfold mnum; rw [hn]; rfl
    have HPK : Hid (Ending.returned (.agg (pwL 48 0 [] n).toArray) = .returned (pwV (pkind t) 0 (ptext t) (mnum t))) := pk_eq (by unfold pkind; simp [hn]) (by unfold ptext; simp [hn]) hmn
    go_wp2_with (first | (go_at_call 123; refine HNO.out.mono ?_; intro e w1 hp; obtain ⟨rfl, hb1⟩ := hp.got hn; have hq1 := (hb1.block _ hgl).trans HQB.out) | (refine wpList_store_blk (by rfl) 116 (.tmp 2) (.tmp 14) (by rfl) w.heap.size (pwL 48 0 [] n) (by rfl) (by rfl) _ 116 hq1 (by rfl) infoPW (pwL_one _ _ _ _) ?_; intro w3 hb3 ht3) | fail)
    have hld := run_loadVar_mid (P := Tryz.prog) w3 w.heap.size 0 116 (pwL 48 0 [] n) _ (range_blk hb3.out) Tryz.underlying116 rfl infoPW
    go_frame
    exact bodyPost_ret (v := .agg (pwL 48 0 [] n).toArray) (by simp [results, Tryz.results117, asAddr, hld]) rfl ⟨HPK.out, (hWb.trans (hb1.mono hWb.size)).trans (ht3.out.below (Nat.le_refl _))⟩
  | none =>
    have hmn : mnum t = 0 := by unfold mnum; rw [hn]; rfl
    cases hgs : gSym t with
    | true =>
      have HGS : Hid (∀ w', Calls Tryz.prog 124 #[.string (mkS (t))] w' fun e w1 => e = .returned (.bool true) ∧ w1 = w') := fun w' => (goodSymbol_any (mkS t) w' hms).mono fun e w1 h => ⟨by rw [h.1, ← hgs]; rfl, h.2⟩
      have HPK : Hid (Ending.returned (.agg (pwL 97 0 t 0).toArray) = .returned (pwV (pkind t) 0 (ptext t) (mnum t))) := pk_eq (by unfold pkind; simp [hn, hgs]) (by unfold ptext; simp [hn, hgs]) hmn
      go_wp2_with (first | (go_at_call 123; refine HNO.out.mono ?_; intro e w1 hp; obtain ⟨m, rfl, hb1⟩ := hp.not hn; have hq1 := (hb1.block _ hgl).trans HQB.out) | (go_at_call 124; refine (HGS.out _).mono ?_; rintro e w2 ⟨rfl, hw⟩; rw [hw]; clear hw w2) | (refine wpList_store_blk (by rfl) 116 (.tmp 2) (.tmp 18) (by rfl) w.heap.size (pwL 97 0 t 0) (by rfl) (by rfl) _ 116 hq1 (by rfl) infoPW (pwL_one _ _ _ _) ?_; intro w3 hb3 ht3) | fail)
      have hld := run_loadVar_mid (P := Tryz.prog) w3 w.heap.size 0 116 (pwL 97 0 t 0) _ (range_blk hb3.out) Tryz.underlying116 rfl infoPW
      go_frame
      exact bodyPost_ret (v := .agg (pwL 97 0 t 0).toArray) (by simp [results, Tryz.results117, asAddr, hld]) rfl ⟨HPK.out, (hWb.trans (hb1.mono hWb.size)).trans (ht3.out.below (Nat.le_refl _))⟩
    | false =>
      have HGS : Hid (∀ w', Calls Tryz.prog 124 #[.string (mkS (t))] w' fun e w1 => e = .returned (.bool false) ∧ w1 = w') := fun w' => (goodSymbol_any (mkS t) w' hms).mono fun e w1 h => ⟨by rw [h.1, ← hgs]; rfl, h.2⟩
      by_cases h63 : t.head? = some 63
      · have HCP : Hid (∀ w', Calls Tryz.prog 125 #[.string (mkS t), .string ⟨#[63]⟩] w' fun e w1 => e = .returned (.tuple #[.string (mkS t.tail), .bool true]) ∧ w1 = w') := fun w' => (Tryz.strings_CutPrefix (mkS t) ⟨#[63]⟩ w').mono fun e w1 h => ⟨by rw [h.1, ← trim63 h63, ← show Lib.hasPrefix t [63] = true by rw [has63, decide_eq_true h63]]; rfl, h.2⟩
        have hmt : (mkS t.tail).size ≤ maxLen := by rw [mkS_size]; unfold maxLen; omega
        cases hgt : gSym t.tail with
        | true =>
          have hv : isVarW t = true := by unfold isVarW; rw [decide_eq_true h63, hgt]; rfl
          have HGT : Hid (∀ w', Calls Tryz.prog 124 #[.string (mkS (t.tail))] w' fun e w1 => e = .returned (.bool true) ∧ w1 = w') := fun w' => (goodSymbol_any (mkS t.tail) w' hmt).mono fun e w1 h => ⟨by rw [h.1, ← hgt]; rfl, h.2⟩
          have HPK : Hid (Ending.returned (.agg (pwL 63 0 t.tail 0).toArray) = .returned (pwV (pkind t) 0 (ptext t) (mnum t))) := pk_eq (by unfold pkind; simp [hn, hgs, hv]) (by unfold ptext; simp [hn, hgs, hv]) hmn
          go_upto_region 6 with (first | (go_at_call 123; refine HNO.out.mono ?_; intro e w1 hp; obtain ⟨m, rfl, hb1⟩ := hp.not hn; have hq1 := (hb1.block _ hgl).trans HQB.out) | (go_at_call 124; refine (HGS.out _).mono ?_; rintro e w2 ⟨rfl, hw⟩; rw [hw]; clear hw w2) | fail)
          go_wp2_with (first | (go_at_call 125; refine (HCP.out _).mono ?_; rintro e w2 ⟨rfl, hw⟩; rw [hw]; clear hw w2) | (go_at_call 124; refine (HGT.out _).mono ?_; rintro e w2 ⟨rfl, hw⟩; rw [hw]; clear hw w2) | (refine wpList_store_blk (by rfl) 116 (.tmp 2) (.tmp 30) (by rfl) w.heap.size (pwL 63 0 t.tail 0) (by rfl) (by rfl) _ 116 hq1 (by rfl) infoPW (pwL_one _ _ _ _) ?_; intro w3 hb3 ht3) | fail)
          have hld := run_loadVar_mid (P := Tryz.prog) w3 w.heap.size 0 116 (pwL 63 0 t.tail 0) _ (range_blk hb3.out) Tryz.underlying116 rfl infoPW
          go_frame
          exact bodyPost_ret (v := .agg (pwL 63 0 t.tail 0).toArray) (by simp [results, Tryz.results117, asAddr, hld]) rfl ⟨HPK.out, (hWb.trans (hb1.mono hWb.size)).trans (ht3.out.below (Nat.le_refl _))⟩
        | false =>
          have hv : isVarW t = false := by unfold isVarW; rw [hgt, Bool.and_false]
          have HGT : Hid (∀ w', Calls Tryz.prog 124 #[.string (mkS (t.tail))] w' fun e w1 => e = .returned (.bool false) ∧ w1 = w') := fun w' => (goodSymbol_any (mkS t.tail) w' hmt).mono fun e w1 h => ⟨by rw [h.1, ← hgt]; rfl, h.2⟩
          go_upto_region 6 with (first | (go_at_call 123; refine HNO.out.mono ?_; intro e w1 hp; obtain ⟨m, rfl, hb1⟩ := hp.not hn; have hq1 := (hb1.block _ hgl).trans HQB.out) | (go_at_call 124; refine (HGS.out _).mono ?_; rintro e w2 ⟨rfl, hw⟩; rw [hw]; clear hw w2) | fail)
          go_upto_region 9 with (first | (go_at_call 125; refine (HCP.out _).mono ?_; rintro e w2 ⟨rfl, hw⟩; rw [hw]; clear hw w2) | (go_at_call 124; refine (HGT.out _).mono ?_; rintro e w2 ⟨rfl, hw⟩; rw [hw]; clear hw w2) | fail)
          clear h63 hmt htl hms
          have HTO := hidX (testOf_any t w1 ((HTB.out.below hb1)))
          by_cases htx : testIx t = 0
          · have hti : ((testIx t : Int) != 0) = false := by rw [htx]; rfl
            go_upto_region 11 with (go_at_call 126; refine HTO.out.mono ?_; rintro e w2 ⟨rfl, hw⟩; rw [hw]; clear hw w2)
            by_cases har : t ∈ arTx
            · obtain ⟨b, hb⟩ := ar_one har
              have hs1 : (((mkS t).size : Int) == 1) = true := by rw [mkS_size, hb]; rfl
              have hs0 : 0 < (mkS t).size := by rw [mkS_size, hb]; exact Nat.one_pos
              have j0 : (0 : Int) < ((mkS t).size : Int) := by omega
              have HIA : Hid (∀ w', Calls Tryz.prog 127 #[.int .u8 ((mkS t)[0].toNat : Int)] w' fun e w1 => e = .returned (.bool true) ∧ w1 = w') := fun w' => (isArith_any _ (by omega) (by have := UInt8.toNat_lt (mkS t)[0]; omega) w').mono fun e w1 h => ⟨by rw [h.1, isAr_at hs0 (by rw [hb]; rfl), decide_eq_true har], h.2⟩
              have HPK : Hid (Ending.returned (.agg (pwL 43 0 t 0).toArray) = .returned (pwV (pkind t) 0 (ptext t) (mnum t))) := pk_eq (by unfold pkind; simp [hn, hgs, hv, htx, har]) (by unfold ptext; simp [hn, hgs, hv, htx, har]) hmn
              clear hb har htx
              go_wp2_with (first | (go_at_call 127; refine (HIA.out _).mono ?_; rintro e w2 ⟨rfl, hw⟩; rw [hw]; clear hw w2) | (refine wpList_store_blk (by rfl) 116 (.tmp 2) (.tmp 45) (by rfl) w.heap.size (pwL 43 0 t 0) (by rfl) (by rfl) _ 116 hq1 (by rfl) infoPW (pwL_one _ _ _ _) ?_; intro w3 hb3 ht3) | fail)
              have hld := run_loadVar_mid (P := Tryz.prog) w3 w.heap.size 0 116 (pwL 43 0 t 0) _ (range_blk hb3.out) Tryz.underlying116 rfl infoPW
              go_frame
              exact bodyPost_ret (v := .agg (pwL 43 0 t 0).toArray) (by simp [results, Tryz.results117, asAddr, hld]) rfl ⟨HPK.out, (hWb.trans (hb1.mono hWb.size)).trans (ht3.out.below (Nat.le_refl _))⟩
            · by_cases hs : (mkS t).size = 1
              · have hs1 : (((mkS t).size : Int) == 1) = true := by rw [hs]; rfl
                have hs0 : 0 < (mkS t).size := by omega
                have j0 : (0 : Int) < ((mkS t).size : Int) := by omega
                have HIA : Hid (∀ w', Calls Tryz.prog 127 #[.int .u8 ((mkS t)[0].toNat : Int)] w' fun e w1 => e = .returned (.bool false) ∧ w1 = w') := fun w' => (isArith_any _ (by omega) (by have := UInt8.toNat_lt (mkS t)[0]; omega) w').mono fun e w1 h => ⟨by rw [h.1, isAr_at hs0 (by rw [← mkS_size]; exact hs), decide_eq_false har], h.2⟩
                go_upto_region 13 with (go_at_call 127; refine (HIA.out _).mono ?_; rintro e w2 ⟨rfl, hw⟩; rw [hw]; clear hw w2)
                have he1 := beq_lit (mkS t) [95]
                have he2 := beq_lit (mkS t) [61, 62]
                rw [bs_mkS] at he1 he2
                by_cases h95 : t = [95]
                · rw [decide_eq_true h95] at he1
                  have HPK : Hid (Ending.returned (.agg (pwL 95 0 [] 0).toArray) = .returned (pwV (pkind t) 0 (ptext t) (mnum t))) := pk_eq (by unfold pkind; rw [if_neg (by rw [hn]; decide), if_neg (by rw [hgs]; decide), if_neg (by rw [hv]; decide), if_neg (fun h => h htx), if_neg har, if_pos h95]) (by unfold ptext; rw [if_neg (by rw [hn]; decide), if_neg (by rw [hgs]; decide), if_neg (by rw [hv]; decide), if_neg (fun h => h htx), if_neg har]) hmn
                  clear h95 he2
                  go_wp2_with (first | (refine wpList_store_blk (by rfl) 116 (.tmp 2) (.tmp 49) (by rfl) w.heap.size (pwL 95 0 [] 0) (by rfl) (by rfl) _ 116 hq1 (by rfl) infoPW (pwL_one _ _ _ _) ?_; intro w3 hb3 ht3) | fail)
                  have hld := run_loadVar_mid (P := Tryz.prog) w3 w.heap.size 0 116 (pwL 95 0 [] 0) _ (range_blk hb3.out) Tryz.underlying116 rfl infoPW
                  go_frame
                  exact bodyPost_ret (v := .agg (pwL 95 0 [] 0).toArray) (by simp [results, Tryz.results117, asAddr, hld]) rfl ⟨HPK.out, (hWb.trans (hb1.mono hWb.size)).trans (ht3.out.below (Nat.le_refl _))⟩
                · rw [decide_eq_false h95] at he1
                  by_cases h62 : t = [61, 62]
                  · rw [decide_eq_true h62] at he2
                    have HPK : Hid (Ending.returned (.agg (pwL 62 0 [] 0).toArray) = .returned (pwV (pkind t) 0 (ptext t) (mnum t))) := pk_eq (by unfold pkind; rw [if_neg (by rw [hn]; decide), if_neg (by rw [hgs]; decide), if_neg (by rw [hv]; decide), if_neg (fun h => h htx), if_neg har, if_neg h95, if_pos h62]) (by unfold ptext; rw [if_neg (by rw [hn]; decide), if_neg (by rw [hgs]; decide), if_neg (by rw [hv]; decide), if_neg (fun h => h htx), if_neg har]) hmn
                    clear h95 h62
                    go_wp2_with (first | (refine wpList_store_blk (by rfl) 116 (.tmp 2) (.tmp 52) (by rfl) w.heap.size (pwL 62 0 [] 0) (by rfl) (by rfl) _ 116 hq1 (by rfl) infoPW (pwL_one _ _ _ _) ?_; intro w3 hb3 ht3) | fail)
                    have hld := run_loadVar_mid (P := Tryz.prog) w3 w.heap.size 0 116 (pwL 62 0 [] 0) _ (range_blk hb3.out) Tryz.underlying116 rfl infoPW
                    go_frame
                    exact bodyPost_ret (v := .agg (pwL 62 0 [] 0).toArray) (by simp [results, Tryz.results117, asAddr, hld]) rfl ⟨HPK.out, (hWb.trans (hb1.mono hWb.size)).trans (ht3.out.below (Nat.le_refl _))⟩
                  · rw [decide_eq_false h62] at he2
                    have HPK : Hid (Ending.returned (.agg (pwL (-1) 0 [] 0).toArray) = .returned (pwV (pkind t) 0 (ptext t) (mnum t))) := pk_eq (by unfold pkind; rw [if_neg (by rw [hn]; decide), if_neg (by rw [hgs]; decide), if_neg (by rw [hv]; decide), if_neg (fun h => h htx), if_neg har, if_neg h95, if_neg h62]) (by unfold ptext; rw [if_neg (by rw [hn]; decide), if_neg (by rw [hgs]; decide), if_neg (by rw [hv]; decide), if_neg (fun h => h htx), if_neg har]) hmn
                    clear h95 h62
                    go_wp2_with (first | (refine wpList_store_blk (by rfl) 116 (.tmp 2) (.tmp 53) (by rfl) w.heap.size (pwL (-1) 0 [] 0) (by rfl) (by rfl) _ 116 hq1 (by rfl) infoPW (pwL_one _ _ _ _) ?_; intro w3 hb3 ht3) | fail)
                    have hld := run_loadVar_mid (P := Tryz.prog) w3 w.heap.size 0 116 (pwL (-1) 0 [] 0) _ (range_blk hb3.out) Tryz.underlying116 rfl infoPW
                    go_frame
                    exact bodyPost_ret (v := .agg (pwL (-1) 0 [] 0).toArray) (by simp [results, Tryz.results117, asAddr, hld]) rfl ⟨HPK.out, (hWb.trans (hb1.mono hWb.size)).trans (ht3.out.below (Nat.le_refl _))⟩
              · have hs1 : (((mkS t).size : Int) == 1) = false := beqF (by omega)
                go_upto_region 13 with fail
                have he1 := beq_lit (mkS t) [95]
                have he2 := beq_lit (mkS t) [61, 62]
                rw [bs_mkS] at he1 he2
                by_cases h95 : t = [95]
                · rw [decide_eq_true h95] at he1
                  have HPK : Hid (Ending.returned (.agg (pwL 95 0 [] 0).toArray) = .returned (pwV (pkind t) 0 (ptext t) (mnum t))) := pk_eq (by unfold pkind; rw [if_neg (by rw [hn]; decide), if_neg (by rw [hgs]; decide), if_neg (by rw [hv]; decide), if_neg (fun h => h htx), if_neg har, if_pos h95]) (by unfold ptext; rw [if_neg (by rw [hn]; decide), if_neg (by rw [hgs]; decide), if_neg (by rw [hv]; decide), if_neg (fun h => h htx), if_neg har]) hmn
                  clear h95 he2
                  go_wp2_with (first | (refine wpList_store_blk (by rfl) 116 (.tmp 2) (.tmp 49) (by rfl) w.heap.size (pwL 95 0 [] 0) (by rfl) (by rfl) _ 116 hq1 (by rfl) infoPW (pwL_one _ _ _ _) ?_; intro w3 hb3 ht3) | fail)
                  have hld := run_loadVar_mid (P := Tryz.prog) w3 w.heap.size 0 116 (pwL 95 0 [] 0) _ (range_blk hb3.out) Tryz.underlying116 rfl infoPW
                  go_frame
                  exact bodyPost_ret (v := .agg (pwL 95 0 [] 0).toArray) (by simp [results, Tryz.results117, asAddr, hld]) rfl ⟨HPK.out, (hWb.trans (hb1.mono hWb.size)).trans (ht3.out.below (Nat.le_refl _))⟩
                · rw [decide_eq_false h95] at he1
                  by_cases h62 : t = [61, 62]
                  · rw [decide_eq_true h62] at he2
                    have HPK : Hid (Ending.returned (.agg (pwL 62 0 [] 0).toArray) = .returned (pwV (pkind t) 0 (ptext t) (mnum t))) := pk_eq (by unfold pkind; rw [if_neg (by rw [hn]; decide), if_neg (by rw [hgs]; decide), if_neg (by rw [hv]; decide), if_neg (fun h => h htx), if_neg har, if_neg h95, if_pos h62]) (by unfold ptext; rw [if_neg (by rw [hn]; decide), if_neg (by rw [hgs]; decide), if_neg (by rw [hv]; decide), if_neg (fun h => h htx), if_neg har]) hmn
                    clear h95 h62
                    go_wp2_with (first | (refine wpList_store_blk (by rfl) 116 (.tmp 2) (.tmp 52) (by rfl) w.heap.size (pwL 62 0 [] 0) (by rfl) (by rfl) _ 116 hq1 (by rfl) infoPW (pwL_one _ _ _ _) ?_; intro w3 hb3 ht3) | fail)
                    have hld := run_loadVar_mid (P := Tryz.prog) w3 w.heap.size 0 116 (pwL 62 0 [] 0) _ (range_blk hb3.out) Tryz.underlying116 rfl infoPW
                    go_frame
                    exact bodyPost_ret (v := .agg (pwL 62 0 [] 0).toArray) (by simp [results, Tryz.results117, asAddr, hld]) rfl ⟨HPK.out, (hWb.trans (hb1.mono hWb.size)).trans (ht3.out.below (Nat.le_refl _))⟩
                  · rw [decide_eq_false h62] at he2
                    have HPK : Hid (Ending.returned (.agg (pwL (-1) 0 [] 0).toArray) = .returned (pwV (pkind t) 0 (ptext t) (mnum t))) := pk_eq (by unfold pkind; rw [if_neg (by rw [hn]; decide), if_neg (by rw [hgs]; decide), if_neg (by rw [hv]; decide), if_neg (fun h => h htx), if_neg har, if_neg h95, if_neg h62]) (by unfold ptext; rw [if_neg (by rw [hn]; decide), if_neg (by rw [hgs]; decide), if_neg (by rw [hv]; decide), if_neg (fun h => h htx), if_neg har]) hmn
                    clear h95 h62
                    go_wp2_with (first | (refine wpList_store_blk (by rfl) 116 (.tmp 2) (.tmp 53) (by rfl) w.heap.size (pwL (-1) 0 [] 0) (by rfl) (by rfl) _ 116 hq1 (by rfl) infoPW (pwL_one _ _ _ _) ?_; intro w3 hb3 ht3) | fail)
                    have hld := run_loadVar_mid (P := Tryz.prog) w3 w.heap.size 0 116 (pwL (-1) 0 [] 0) _ (range_blk hb3.out) Tryz.underlying116 rfl infoPW
                    go_frame
                    exact bodyPost_ret (v := .agg (pwL (-1) 0 [] 0).toArray) (by simp [results, Tryz.results117, asAddr, hld]) rfl ⟨HPK.out, (hWb.trans (hb1.mono hWb.size)).trans (ht3.out.below (Nat.le_refl _))⟩
          · have hti : ((testIx t : Int) != 0) = true := by simp; omega
            have HPK : Hid (Ending.returned (.agg (pwL 61 0 t 0).toArray) = .returned (pwV (pkind t) 0 (ptext t) (mnum t))) := pk_eq (by unfold pkind; simp [hn, hgs, hv, htx]) (by unfold ptext; simp [hn, hgs, hv, htx]) hmn
            clear htx
            go_wp2_with (first | (go_at_call 126; refine HTO.out.mono ?_; rintro e w2 ⟨rfl, hw⟩; rw [hw]; clear hw w2) | (refine wpList_store_blk (by rfl) 116 (.tmp 2) (.tmp 35) (by rfl) w.heap.size (pwL 61 0 t 0) (by rfl) (by rfl) _ 116 hq1 (by rfl) infoPW (pwL_one _ _ _ _) ?_; intro w3 hb3 ht3) | fail)
            have hld := run_loadVar_mid (P := Tryz.prog) w3 w.heap.size 0 116 (pwL 61 0 t 0) _ (range_blk hb3.out) Tryz.underlying116 rfl infoPW
            go_frame
            exact bodyPost_ret (v := .agg (pwL 61 0 t 0).toArray) (by simp [results, Tryz.results117, asAddr, hld]) rfl ⟨HPK.out, (hWb.trans (hb1.mono hWb.size)).trans (ht3.out.below (Nat.le_refl _))⟩
      · have hv : isVarW t = false := by unfold isVarW; rw [decide_eq_false h63, Bool.false_and]
        have HCP : Hid (∀ w', Calls Tryz.prog 125 #[.string (mkS t), .string ⟨#[63]⟩] w' fun e w1 => e = .returned (.tuple #[.string (mkS (Lib.trimPrefix t [63])), .bool false]) ∧ w1 = w') := fun w' => (Tryz.strings_CutPrefix (mkS t) ⟨#[63]⟩ w').mono fun e w1 h => ⟨by rw [h.1, ← show Lib.hasPrefix t [63] = false by rw [has63, decide_eq_false h63]]; rfl, h.2⟩
        go_upto_region 6 with (first | (go_at_call 123; refine HNO.out.mono ?_; intro e w1 hp; obtain ⟨m, rfl, hb1⟩ := hp.not hn; have hq1 := (hb1.block _ hgl).trans HQB.out) | (go_at_call 124; refine (HGS.out _).mono ?_; rintro e w2 ⟨rfl, hw⟩; rw [hw]; clear hw w2) | fail)
        go_upto_region 9 with (go_at_call 125; refine (HCP.out _).mono ?_; rintro e w2 ⟨rfl, hw⟩; rw [hw]; clear hw w2)
        clear h63 htl hms
        have HTO := hidX (testOf_any t w1 ((HTB.out.below hb1)))
        by_cases htx : testIx t = 0
        · have hti : ((testIx t : Int) != 0) = false := by rw [htx]; rfl
          go_upto_region 11 with (go_at_call 126; refine HTO.out.mono ?_; rintro e w2 ⟨rfl, hw⟩; rw [hw]; clear hw w2)
          by_cases har : t ∈ arTx
          · obtain ⟨b, hb⟩ := ar_one har
            have hs1 : (((mkS t).size : Int) == 1) = true := by rw [mkS_size, hb]; rfl
            have hs0 : 0 < (mkS t).size := by rw [mkS_size, hb]; exact Nat.one_pos
            have j0 : (0 : Int) < ((mkS t).size : Int) := by omega
            have HIA : Hid (∀ w', Calls Tryz.prog 127 #[.int .u8 ((mkS t)[0].toNat : Int)] w' fun e w1 => e = .returned (.bool true) ∧ w1 = w') := fun w' => (isArith_any _ (by omega) (by have := UInt8.toNat_lt (mkS t)[0]; omega) w').mono fun e w1 h => ⟨by rw [h.1, isAr_at hs0 (by rw [hb]; rfl), decide_eq_true har], h.2⟩
            have HPK : Hid (Ending.returned (.agg (pwL 43 0 t 0).toArray) = .returned (pwV (pkind t) 0 (ptext t) (mnum t))) := pk_eq (by unfold pkind; simp [hn, hgs, hv, htx, har]) (by unfold ptext; simp [hn, hgs, hv, htx, har]) hmn
            clear hb har htx
            go_wp2_with (first | (go_at_call 127; refine (HIA.out _).mono ?_; rintro e w2 ⟨rfl, hw⟩; rw [hw]; clear hw w2) | (refine wpList_store_blk (by rfl) 116 (.tmp 2) (.tmp 45) (by rfl) w.heap.size (pwL 43 0 t 0) (by rfl) (by rfl) _ 116 hq1 (by rfl) infoPW (pwL_one _ _ _ _) ?_; intro w3 hb3 ht3) | fail)
            have hld := run_loadVar_mid (P := Tryz.prog) w3 w.heap.size 0 116 (pwL 43 0 t 0) _ (range_blk hb3.out) Tryz.underlying116 rfl infoPW
            go_frame
            exact bodyPost_ret (v := .agg (pwL 43 0 t 0).toArray) (by simp [results, Tryz.results117, asAddr, hld]) rfl ⟨HPK.out, (hWb.trans (hb1.mono hWb.size)).trans (ht3.out.below (Nat.le_refl _))⟩
          · by_cases hs : (mkS t).size = 1
            · have hs1 : (((mkS t).size : Int) == 1) = true := by rw [hs]; rfl
              have hs0 : 0 < (mkS t).size := by omega
              have j0 : (0 : Int) < ((mkS t).size : Int) := by omega
              have HIA : Hid (∀ w', Calls Tryz.prog 127 #[.int .u8 ((mkS t)[0].toNat : Int)] w' fun e w1 => e = .returned (.bool false) ∧ w1 = w') := fun w' => (isArith_any _ (by omega) (by have := UInt8.toNat_lt (mkS t)[0]; omega) w').mono fun e w1 h => ⟨by rw [h.1, isAr_at hs0 (by rw [← mkS_size]; exact hs), decide_eq_false har], h.2⟩
              go_upto_region 13 with (go_at_call 127; refine (HIA.out _).mono ?_; rintro e w2 ⟨rfl, hw⟩; rw [hw]; clear hw w2)
              have he1 := beq_lit (mkS t) [95]
              have he2 := beq_lit (mkS t) [61, 62]
              rw [bs_mkS] at he1 he2
              by_cases h95 : t = [95]
              · rw [decide_eq_true h95] at he1
                have HPK : Hid (Ending.returned (.agg (pwL 95 0 [] 0).toArray) = .returned (pwV (pkind t) 0 (ptext t) (mnum t))) := pk_eq (by unfold pkind; rw [if_neg (by rw [hn]; decide), if_neg (by rw [hgs]; decide), if_neg (by rw [hv]; decide), if_neg (fun h => h htx), if_neg har, if_pos h95]) (by unfold ptext; rw [if_neg (by rw [hn]; decide), if_neg (by rw [hgs]; decide), if_neg (by rw [hv]; decide), if_neg (fun h => h htx), if_neg har]) hmn
                clear h95 he2
                go_wp2_with (first | (refine wpList_store_blk (by rfl) 116 (.tmp 2) (.tmp 49) (by rfl) w.heap.size (pwL 95 0 [] 0) (by rfl) (by rfl) _ 116 hq1 (by rfl) infoPW (pwL_one _ _ _ _) ?_; intro w3 hb3 ht3) | fail)
                have hld := run_loadVar_mid (P := Tryz.prog) w3 w.heap.size 0 116 (pwL 95 0 [] 0) _ (range_blk hb3.out) Tryz.underlying116 rfl infoPW
                go_frame
                exact bodyPost_ret (v := .agg (pwL 95 0 [] 0).toArray) (by simp [results, Tryz.results117, asAddr, hld]) rfl ⟨HPK.out, (hWb.trans (hb1.mono hWb.size)).trans (ht3.out.below (Nat.le_refl _))⟩
              · rw [decide_eq_false h95] at he1
                by_cases h62 : t = [61, 62]
                · rw [decide_eq_true h62] at he2
                  have HPK : Hid (Ending.returned (.agg (pwL 62 0 [] 0).toArray) = .returned (pwV (pkind t) 0 (ptext t) (mnum t))) := pk_eq (by unfold pkind; rw [if_neg (by rw [hn]; decide), if_neg (by rw [hgs]; decide), if_neg (by rw [hv]; decide), if_neg (fun h => h htx), if_neg har, if_neg h95, if_pos h62]) (by unfold ptext; rw [if_neg (by rw [hn]; decide), if_neg (by rw [hgs]; decide), if_neg (by rw [hv]; decide), if_neg (fun h => h htx), if_neg har]) hmn
                  clear h95 h62
                  go_wp2_with (first | (refine wpList_store_blk (by rfl) 116 (.tmp 2) (.tmp 52) (by rfl) w.heap.size (pwL 62 0 [] 0) (by rfl) (by rfl) _ 116 hq1 (by rfl) infoPW (pwL_one _ _ _ _) ?_; intro w3 hb3 ht3) | fail)
                  have hld := run_loadVar_mid (P := Tryz.prog) w3 w.heap.size 0 116 (pwL 62 0 [] 0) _ (range_blk hb3.out) Tryz.underlying116 rfl infoPW
                  go_frame
                  exact bodyPost_ret (v := .agg (pwL 62 0 [] 0).toArray) (by simp [results, Tryz.results117, asAddr, hld]) rfl ⟨HPK.out, (hWb.trans (hb1.mono hWb.size)).trans (ht3.out.below (Nat.le_refl _))⟩
                · rw [decide_eq_false h62] at he2
                  have HPK : Hid (Ending.returned (.agg (pwL (-1) 0 [] 0).toArray) = .returned (pwV (pkind t) 0 (ptext t) (mnum t))) := pk_eq (by unfold pkind; rw [if_neg (by rw [hn]; decide), if_neg (by rw [hgs]; decide), if_neg (by rw [hv]; decide), if_neg (fun h => h htx), if_neg har, if_neg h95, if_neg h62]) (by unfold ptext; rw [if_neg (by rw [hn]; decide), if_neg (by rw [hgs]; decide), if_neg (by rw [hv]; decide), if_neg (fun h => h htx), if_neg har]) hmn
                  clear h95 h62
                  go_wp2_with (first | (refine wpList_store_blk (by rfl) 116 (.tmp 2) (.tmp 53) (by rfl) w.heap.size (pwL (-1) 0 [] 0) (by rfl) (by rfl) _ 116 hq1 (by rfl) infoPW (pwL_one _ _ _ _) ?_; intro w3 hb3 ht3) | fail)
                  have hld := run_loadVar_mid (P := Tryz.prog) w3 w.heap.size 0 116 (pwL (-1) 0 [] 0) _ (range_blk hb3.out) Tryz.underlying116 rfl infoPW
                  go_frame
                  exact bodyPost_ret (v := .agg (pwL (-1) 0 [] 0).toArray) (by simp [results, Tryz.results117, asAddr, hld]) rfl ⟨HPK.out, (hWb.trans (hb1.mono hWb.size)).trans (ht3.out.below (Nat.le_refl _))⟩
            · have hs1 : (((mkS t).size : Int) == 1) = false := beqF (by omega)
              go_upto_region 13 with fail
              have he1 := beq_lit (mkS t) [95]
              have he2 := beq_lit (mkS t) [61, 62]
              rw [bs_mkS] at he1 he2
              by_cases h95 : t = [95]
              · rw [decide_eq_true h95] at he1
                have HPK : Hid (Ending.returned (.agg (pwL 95 0 [] 0).toArray) = .returned (pwV (pkind t) 0 (ptext t) (mnum t))) := pk_eq (by unfold pkind; rw [if_neg (by rw [hn]; decide), if_neg (by rw [hgs]; decide), if_neg (by rw [hv]; decide), if_neg (fun h => h htx), if_neg har, if_pos h95]) (by unfold ptext; rw [if_neg (by rw [hn]; decide), if_neg (by rw [hgs]; decide), if_neg (by rw [hv]; decide), if_neg (fun h => h htx), if_neg har]) hmn
                clear h95 he2
                go_wp2_with (first | (refine wpList_store_blk (by rfl) 116 (.tmp 2) (.tmp 49) (by rfl) w.heap.size (pwL 95 0 [] 0) (by rfl) (by rfl) _ 116 hq1 (by rfl) infoPW (pwL_one _ _ _ _) ?_; intro w3 hb3 ht3) | fail)
                have hld := run_loadVar_mid (P := Tryz.prog) w3 w.heap.size 0 116 (pwL 95 0 [] 0) _ (range_blk hb3.out) Tryz.underlying116 rfl infoPW
                go_frame
                exact bodyPost_ret (v := .agg (pwL 95 0 [] 0).toArray) (by simp [results, Tryz.results117, asAddr, hld]) rfl ⟨HPK.out, (hWb.trans (hb1.mono hWb.size)).trans (ht3.out.below (Nat.le_refl _))⟩
              · rw [decide_eq_false h95] at he1
                by_cases h62 : t = [61, 62]
                · rw [decide_eq_true h62] at he2
                  have HPK : Hid (Ending.returned (.agg (pwL 62 0 [] 0).toArray) = .returned (pwV (pkind t) 0 (ptext t) (mnum t))) := pk_eq (by unfold pkind; rw [if_neg (by rw [hn]; decide), if_neg (by rw [hgs]; decide), if_neg (by rw [hv]; decide), if_neg (fun h => h htx), if_neg har, if_neg h95, if_pos h62]) (by unfold ptext; rw [if_neg (by rw [hn]; decide), if_neg (by rw [hgs]; decide), if_neg (by rw [hv]; decide), if_neg (fun h => h htx), if_neg har]) hmn
                  clear h95 h62
                  go_wp2_with (first | (refine wpList_store_blk (by rfl) 116 (.tmp 2) (.tmp 52) (by rfl) w.heap.size (pwL 62 0 [] 0) (by rfl) (by rfl) _ 116 hq1 (by rfl) infoPW (pwL_one _ _ _ _) ?_; intro w3 hb3 ht3) | fail)
                  have hld := run_loadVar_mid (P := Tryz.prog) w3 w.heap.size 0 116 (pwL 62 0 [] 0) _ (range_blk hb3.out) Tryz.underlying116 rfl infoPW
                  go_frame
                  exact bodyPost_ret (v := .agg (pwL 62 0 [] 0).toArray) (by simp [results, Tryz.results117, asAddr, hld]) rfl ⟨HPK.out, (hWb.trans (hb1.mono hWb.size)).trans (ht3.out.below (Nat.le_refl _))⟩
                · rw [decide_eq_false h62] at he2
                  have HPK : Hid (Ending.returned (.agg (pwL (-1) 0 [] 0).toArray) = .returned (pwV (pkind t) 0 (ptext t) (mnum t))) := pk_eq (by unfold pkind; rw [if_neg (by rw [hn]; decide), if_neg (by rw [hgs]; decide), if_neg (by rw [hv]; decide), if_neg (fun h => h htx), if_neg har, if_neg h95, if_neg h62]) (by unfold ptext; rw [if_neg (by rw [hn]; decide), if_neg (by rw [hgs]; decide), if_neg (by rw [hv]; decide), if_neg (fun h => h htx), if_neg har]) hmn
                  clear h95 h62
                  go_wp2_with (first | (refine wpList_store_blk (by rfl) 116 (.tmp 2) (.tmp 53) (by rfl) w.heap.size (pwL (-1) 0 [] 0) (by rfl) (by rfl) _ 116 hq1 (by rfl) infoPW (pwL_one _ _ _ _) ?_; intro w3 hb3 ht3) | fail)
                  have hld := run_loadVar_mid (P := Tryz.prog) w3 w.heap.size 0 116 (pwL (-1) 0 [] 0) _ (range_blk hb3.out) Tryz.underlying116 rfl infoPW
                  go_frame
                  exact bodyPost_ret (v := .agg (pwL (-1) 0 [] 0).toArray) (by simp [results, Tryz.results117, asAddr, hld]) rfl ⟨HPK.out, (hWb.trans (hb1.mono hWb.size)).trans (ht3.out.below (Nat.le_refl _))⟩
        · have hti : ((testIx t : Int) != 0) = true := by simp; omega
          have HPK : Hid (Ending.returned (.agg (pwL 61 0 t 0).toArray) = .returned (pwV (pkind t) 0 (ptext t) (mnum t))) := pk_eq (by unfold pkind; simp [hn, hgs, hv, htx]) (by unfold ptext; simp [hn, hgs, hv, htx]) hmn
          clear htx
          go_wp2_with (first | (go_at_call 126; refine HTO.out.mono ?_; rintro e w2 ⟨rfl, hw⟩; rw [hw]; clear hw w2) | (refine wpList_store_blk (by rfl) 116 (.tmp 2) (.tmp 35) (by rfl) w.heap.size (pwL 61 0 t 0) (by rfl) (by rfl) _ 116 hq1 (by rfl) infoPW (pwL_one _ _ _ _) ?_; intro w3 hb3 ht3) | fail)
          have hld := run_loadVar_mid (P := Tryz.prog) w3 w.heap.size 0 116 (pwL 61 0 t 0) _ (range_blk hb3.out) Tryz.underlying116 rfl infoPW
          go_frame
          exact bodyPost_ret (v := .agg (pwL 61 0 t 0).toArray) (by simp [results, Tryz.results117, asAddr, hld]) rfl ⟨HPK.out, (hWb.trans (hb1.mono hWb.size)).trans (ht3.out.below (Nat.le_refl _))⟩
end Go.Proofs.YtdhpoagjmiligaaGreatDoor
