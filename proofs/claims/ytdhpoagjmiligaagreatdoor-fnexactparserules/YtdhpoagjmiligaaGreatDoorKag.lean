/-
  OUR OWN TEXT. Chk, Tx1, Sp20, Bx, Tx3, Ll, Mo0, Tx12, Mt, Im10, Og, Tr, Tr0, Sx1, Sx2, Ms1, Tx2, Tx4, Sc2, Sc1, Sc4h, Ic1, Ic2, Nm0, one behind the other.
-/
import Derived.Test.YtdhpoagjmiligaaGreatDoorKad
import Derived.Test.YtdhpoagjmiligaaGreatDoorKaa
import Derived.Lib.Join
import Derived.Lib.ItoaLen
import Derived.Test.YtdhpoagjmiligaaGreatDoorSp10m
import Derived.Test.YtdhpoagjmiligaaGreatDoorAppm
import Derived.Lib.ItoaMem
import Derived.Laws.BytesArg
import Derived.Deep.RegionHeld3
import Derived.Deep.DrawnRows
import Derived.Lib.ParseIntB
import Derived.Deep.DeepCutAuto
import Derived.Laws.Strings
import Derived.Test.YtdhpoagjmiligaaGreatDoorHwm
import Derived.BigQuiet
import Derived.Lib.Bytealg
namespace Go.Proofs.YtdhpoagjmiligaaGreatDoor

def isE (s : ByteArray) : Bool := s.toList.isEmpty
def zeroV (v : V) : Bool := v.kind == 0 && (v.num == 0 && isE v.sym)
def operandOk (t : Tm) : Bool := (isE t.var && gVal t.val) || (gSym t.var.data.toList && zeroV t.val)
def gTm (t : Tm) : Bool :=
  if t.kind == 0 then t.op == 0 && (isE t.var && zeroV t.val)
  else if t.kind == 1 then t.op == 0 && (isE t.var && gVal t.val)
  else if t.kind == 2 then t.op == 0 && (gSym t.var.data.toList && zeroV t.val)
  else if t.kind == 3 then decide (1 ≤ t.op) && (decide (t.op ≤ 6) && operandOk t)
  else false
def notB : ByteArray := ⟨#[110, 111, 116]⟩
def gCls (s : ByteArray) : Bool := gSym s.data.toList && !(decide (s = notB))
def gPt (p : Pt) : Bool := gCls p.cls && (decide (p.terms.length ≤ 6) && p.terms.all gTm)

/-- The first that is bad, counted from k. -/
def firstBad {α : Type} (f : α → Bool) : List α → Nat → Option Nat
  | [], _ => none
  | x :: r, k => if f x then firstBad f r (k + 1) else some k

/-- What an expr covers: the first of its exprs, and how deep it is. -/
abbrev Sp := Nat × Nat
def isAr (op : Int) : Bool := op == 43 || (op == 45 || (op == 42 || (op == 47 || op == 37)))
def leafOk (e : Ex) : Bool := e.op == 0 && (e.a == 0 && e.b == 0)
def spanAB (S : List Sp) (a b : Int) : Option Sp :=
  match S[b.toNat]?, S[a.toNat]? with
  | some sb, some sa => if decide (a = (sb.1 : Int) - 1) && decide (1 + max sa.2 sb.2 ≤ 20) then some (sa.1, 1 + max sa.2 sb.2) else none
  | _, _ => none
def opOk (S : List Sp) (e : Ex) : Bool := isAr e.op && (isE e.var && (zeroV e.val && (decide (e.b = (S.length : Int) - 1) && (decide (0 ≤ e.b) && decide (0 ≤ e.a)))))
def spanOf (S : List Sp) (e : Ex) : Option Sp :=
  if e.kind == 0 then (if leafOk e && (isE e.var && gVal e.val) then some (S.length, 0) else none)
  else if e.kind == 1 then (if leafOk e && (gSym e.var.data.toList && zeroV e.val) then some (S.length, 0) else none)
  else if e.kind == 2 then (if opOk S e then spanAB S e.a e.b else none)
  else none
def spansGo : List Sp → List Ex → List Sp
  | S, [] => S
  | S, e :: r => match spanOf S e with
    | none => S
    | some s => spansGo (S ++ [s]) r

def argsGo (S : List Sp) : List Int → Nat → Option Nat
  | [], nx => some nx
  | x :: r, nx => if decide (0 ≤ x) && (decide (x < (S.length : Int)) && decide ((S[x.toNat]?.getD (0, 0)).1 = nx)) then argsGo S r (x.toNat + 1) else none
def kOk (k : Int) : Bool := decide (-1000000 ≤ k) && decide (k ≤ 1000000)
def fieldsOk (a : Ac) : Bool :=
  if a.kind == 1 then gCls a.cls && a.k == 0
  else if a.kind == 2 then (isE a.cls && kOk a.k) && a.args.isEmpty
  else if a.kind == 3 then isE a.cls && kOk a.k
  else if a.kind == 4 then isE a.cls && (a.k == 0 && a.args.isEmpty)
  else false
def gAc (S : List Sp) (a : Ac) (nx : Nat) : Option Nat := if fieldsOk a && decide (a.args.length ≤ 6) then argsGo S a.args nx else none
def actsGo (S : List Sp) : List Ac → Nat → Nat → Option Nat
  | [], nx, k => if nx = S.length then none else some k
  | a :: r, nx, k => match gAc S a nx with
    | none => some k
    | some nx' => actsGo S r nx' (k + 1)
def headOk (r : Ru) : Bool := gSym r.name.data.toList && (decide (r.pats.length ≤ 6) && (decide (r.acts.length ≤ 8) && decide (r.exprs.length ≤ 60)))
/-- The item of the first fault of shape. -/
def shape (r : Ru) : Option Nat :=
  if headOk r then
    match firstBad gPt r.pats 1 with
    | some i => some i
    | none => if (spansGo [] r.exprs).length < r.exprs.length then some ((spansGo [] r.exprs).length + 1) else actsGo (spansGo [] r.exprs) r.acts 0 1
  else some 0

def memB (s : ByteArray) (l : List ByteArray) : Bool := l.any fun x => decide (x = s)
def asks (t : Tm) : Bool := t.kind == 3 && !isE t.var
/-- The spans of the first exprs, each right. -/
def Spans (es : List Ex) (S : List Sp) : Prop := S.length ≤ es.length ∧ ∀ (i : Nat) (s : Sp) (e : Ex), S[i]? = some s → es[i]? = some e → spanOf (S.take i) e = some s

theorem Spans.nil (es : List Ex) : Spans es [] := ⟨Nat.zero_le _, fun i s e h => by simp at h⟩
theorem Spans.snoc {es : List Ex} {S : List Sp} {e : Ex} {s : Sp} (h : Spans es S) (he : es[S.length]? = some e) (hs : spanOf S e = some s) : Spans es (S ++ [s]) := by
  refine ⟨by have := (List.getElem?_eq_some_iff.1 he).1; simp; omega, fun i s' e' hi hi' => ?_⟩
  by_cases hlt : i < S.length
  · rw [List.getElem?_append_left hlt] at hi
    rw [List.take_append_of_le_length (by omega)]
    exact h.2 i s' e' hi hi'
  · have hil : i < (S ++ [s]).length := (List.getElem?_eq_some_iff.1 hi).1
    simp at hil
    obtain rfl : i = S.length := by omega
    simp at hi
    subst hi
    rw [he] at hi'
    injection hi' with hi'
    subst hi'
    rw [List.take_append_of_le_length (Nat.le_refl _), List.take_length]
    exact hs

theorem spansGo_spans {es : List Ex} : ∀ {l : List Ex} {S : List Sp}, Spans es S → es.drop S.length = l → Spans es (spansGo S l) ∧ S.length ≤ (spansGo S l).length
  | [], S, h, _ => ⟨h, Nat.le_refl _⟩
  | e :: r, S, h, hd => by
    have he : es[S.length]? = some e := by
      have := List.getElem?_drop (xs := es) (i := S.length) (j := 0)
      rw [hd] at this
      simpa using this.symm
    unfold spansGo
    split
    · exact ⟨h, Nat.le_refl _⟩
    · rename_i s hs
      have hd' : es.drop (S ++ [s]).length = r := by
        rw [List.length_append, ← List.drop_drop, hd]
        rfl
      have := spansGo_spans (h.snoc he hs) hd'
      exact ⟨this.1, by have := this.2; simp at this; omega⟩

/-- What the parts of an operation are. -/
theorem Spans.op {es : List Ex} {S : List Sp} (h : Spans es S) {i : Nat} {s : Sp} {e : Ex} (hi : S[i]? = some s) (he : es[i]? = some e) (hk : e.kind = 2) :
    ∃ (a b : Nat) (sa sb : Sp), e.a = (a : Int) ∧ e.b = (b : Int) ∧ b + 1 = i ∧ a < b + 1 ∧ S[a]? = some sa ∧ S[b]? = some sb ∧ s = (sa.1, 1 + max sa.2 sb.2) := by
  have := h.2 i s e hi he
  unfold spanOf at this
  simp only [hk] at this
  rw [if_neg (by decide), if_neg (by decide), if_pos (by decide)] at this
  split at this
  · rename_i ho
    simp only [opOk, Bool.and_eq_true, decide_eq_true_eq] at ho
    obtain ⟨_, _, _, hb, hb0, ha0⟩ := ho
    have hi' : i < S.length := (List.getElem?_eq_some_iff.1 hi).1
    have hlen : (S.take i).length = i := by simp; omega
    rw [hlen] at hb
    obtain ⟨b, hb'⟩ := Int.eq_ofNat_of_zero_le hb0
    obtain ⟨a, ha'⟩ := Int.eq_ofNat_of_zero_le ha0
    unfold spanAB at this
    rw [hb', ha'] at this
    simp only [Int.toNat_natCast] at this
    split at this
    · rename_i sb sa e1 e2
      rw [List.getElem?_take] at e1 e2
      split at e1
      · split at e2
        · split at this
          · injection this with this
            exact ⟨a, b, sa, sb, ha', hb', by omega, by omega, e2, e1, this.symm⟩
          · cases this
        · cases e2
      · cases e1
    · cases this
  · cases this

end Go.Proofs.YtdhpoagjmiligaaGreatDoor

namespace Go.Proofs.YtdhpoagjmiligaaGreatDoor

abbrev Bs := List UInt8
def bsOf (s : ByteArray) : Bs := s.data.toList
def mkS (l : Bs) : ByteArray := ⟨l.toArray⟩
theorem bs_mkS (l : Bs) : bsOf (mkS l) = l := rfl
theorem mkS_bs (s : ByteArray) : mkS (bsOf s) = s := by
  cases s
  simp [mkS, bsOf]
theorem mkS_app (a b : Bs) : mkS a ++ mkS b = mkS (a ++ b) := by
  apply ByteArray.ext
  simp [mkS, ByteArray.data_append]
theorem mkS_size (l : Bs) : (mkS l).size = l.length := by simp [mkS, ByteArray.size]
theorem bs_length (s : ByteArray) : (bsOf s).length = s.size := Array.length_toList
def opTx : List Bs := [[61], [33, 61], [60], [62], [60, 61], [62, 61]]
def numOk (n : Int) : Prop := -9223372036854775808 ≤ n ∧ n ≤ 9223372036854775807
theorem gSym_le {l : Bs} (h : gSym l = true) : l.length ≤ 20 := by
  unfold gSym at h
  simp only [Bool.and_eq_true, decide_eq_true_eq] at h
  omega
theorem gSym_sz {s : ByteArray} (h : gSym s.data.toList = true) : s.size ≤ 20 := by
  have := gSym_le h
  rw [← bs_length]
  exact this
end Go.Proofs.YtdhpoagjmiligaaGreatDoor

namespace Go.Proofs.YtdhpoagjmiligaaGreatDoor
open Go.RowKit
attribute [local go_sem ↓] Go.wp_at_zero Go.wp_at_succ

theorem bytes_beq {a b : ByteArray} : (a.toList == b.toList) = decide (a = b) := by
  rw [← beq_toListBytes]
  by_cases h : a = b
  · subst h
    rw [beq_toListBytes]
    simp
  · rw [decide_eq_false h, beq_toListBytes]
    simp only [beq_eq_false_iff_ne, ne_eq, ByteArray.toList_eq]
    intro e
    exact h (Go.WideShapes.bytes_inj e)

end Go.Proofs.YtdhpoagjmiligaaGreatDoor

namespace Go.Proofs.YtdhpoagjmiligaaGreatDoor
open Go.RowKit

/-- A rule lies in box b. -/
def RuBox (w : World) (b : Nat) (x : Ru) (a_pats : Option Addr) (c_pats : Nat) (a_exprs : Option Addr) (c_exprs : Nat) (a_acts : Option Addr) (c_acts : Nat) : Prop :=
  w.cell? ⟨b, 0, none⟩ = some (.string x.name) ∧ w.cell? ⟨b, 1, none⟩ = some (.int .i64 x.sal) ∧ w.cell? ⟨b, 2, none⟩ = some (.slice a_pats x.pats.length c_pats) ∧ w.cell? ⟨b, 3, none⟩ = some (.slice a_exprs x.exprs.length c_exprs) ∧ w.cell? ⟨b, 4, none⟩ = some (.slice a_acts x.acts.length c_acts)
theorem RuBox.below {w w' : World} {b : Nat} {x : Ru} {a_pats : Option Addr} {c_pats : Nat} {a_exprs : Option Addr} {c_exprs : Nat} {a_acts : Option Addr} {c_acts : Nat} (h : RuBox w b x a_pats c_pats a_exprs c_exprs a_acts c_acts) (hb : Below w.heap.size w w') : RuBox w' b x a_pats c_pats a_exprs c_exprs a_acts c_acts :=
  ⟨cell_below hb h.1, cell_below hb h.2.1, cell_below hb h.2.2.1, cell_below hb h.2.2.2.1, cell_below hb h.2.2.2.2⟩
theorem RuBox.made (w : World) (t : TypeId) (x : Ru) (a_pats : Option Addr) (c_pats : Nat) (a_exprs : Option Addr) (c_exprs : Nat) (a_acts : Option Addr) (c_acts : Nat) : RuBox (w.alloc (.cells #[.string x.name, .int .i64 x.sal, .slice a_pats x.pats.length c_pats, .slice a_exprs x.exprs.length c_exprs, .slice a_acts x.acts.length c_acts] t)) w.heap.size x a_pats c_pats a_exprs c_exprs a_acts c_acts := by
  refine ⟨?_, ?_, ?_, ?_, ?_⟩ <;> simp [go_sem]
end Go.Proofs.YtdhpoagjmiligaaGreatDoor

namespace Go.Proofs.YtdhpoagjmiligaaGreatDoor
open Go.RowKit
attribute [local go_sem ↓] Go.wp_at_zero Go.wp_at_succ

theorem hidX {p : Prop} (h : p) : Hid p := h
theorem run_convT (c : Int) (w : World) (b : Nat) (h : w.cell? ⟨b, 0, none⟩ = some (.int .u8 c)) : (convert 22 9 (.slice (some ⟨b, 0, none⟩) 1 1)).run Tryz.prog w = .ok (.string (mkS [UInt8.ofNat c.toNat])) w :=
  run_convert_bytes_arg (P := Tryz.prog) _ 22 5 Tryz.underlying22 Tryz.underlying5 b 0 1 1 [c] rfl (fun i hi => by
    obtain rfl : i = 0 := by omega
    simpa using h) 9 Tryz.underlying9

/-- What is still to be written of a number. -/
def decRest (m : Nat) (f : Bool) : Bs := if m = 0 ∧ f = false then [] else Lib.decDigits m
theorem decRest_step {m : Nat} {f : Bool} (h : 0 < m ∨ f = true) (acc : Bs) : decRest m f ++ acc = decRest (m / 10) false ++ (UInt8.ofNat (48 + m % 10) :: acc) := by
  have h0 : decRest m f = Lib.decDigits m := by
    unfold decRest
    rw [if_neg]
    rintro ⟨rfl, rfl⟩
    rcases h with h | h
    · omega
    · cases h
  rw [h0]
  by_cases hm : m < 10
  · have h1 : m / 10 = 0 := by omega
    have h2 : m % 10 = m := by omega
    rw [Lib.decDigits, dif_pos hm, h1, h2]
    rfl
  · have h1 : decRest (m / 10) false = Lib.decDigits (m / 10) := by
      unfold decRest
      rw [if_neg]
      rintro ⟨h, _⟩
      omega
    rw [Lib.decDigits, dif_neg hm, h1]
    simp
theorem decRest_done (acc : Bs) : decRest 0 false ++ acc = acc := rfl
theorem decRest_true (m : Nat) : decRest m true = Lib.decDigits m := by
  unfold decRest
  rw [if_neg]
  rintro ⟨_, h⟩
  cases h

theorem ret_txt {a b : Bs} (h : a = b) : Ending.returned (.string (mkS a)) = .returned (.string (mkS b)) := by rw [h]
theorem size_one (s : ByteArray) (acc : Bs) (h1 : s.size ≤ 100000000000) (h : acc.length ≤ 100000000000) : ¬ 9223372036854775807 < s.size + (mkS acc).size := by
  rw [mkS_size]
  omega
theorem size_two (x : UInt8) (acc : Bs) (h : acc.length ≤ 100000000000) : ¬ 9223372036854775807 < (mkS [x]).size + (mkS acc).size := by
  rw [mkS_size, mkS_size]
  simp only [List.length_cons, List.length_nil]
  omega
theorem decRest_short {m n : Nat} {f : Bool} {acc : Bs} (h : decRest m f ++ acc = Lib.decDigits n) (hn : n ≤ 9223372036854775808) : acc.length ≤ 100000000000 := by
  have h1 := congrArg List.length h
  rw [List.length_append, Lib.decDigits_length] at h1
  have h2 := Lib.nDigits_le20 n (by omega)
  omega
theorem byte_add (m : Nat) : (48 : UInt8) + UInt8.ofNat (m % 10) = UInt8.ofNat (48 + m % 10) := by
  rw [UInt8.ofNat_add]
  rfl

set_option maxHeartbeats 1600000 in
theorem l1Dec_pos (n : Nat) (w : World) (hn : n ≤ 9223372036854775807) : Calls Tryz.prog 99 #[.int .i64 (n : Int)] w fun e w' => e = .returned (.string (mkS (Lib.decDigits n))) ∧ Below w.heap.size w w' := by
  have hk0 : ¬ (n : Int) < 0 := by omega
  have HC := hidX run_convT
  go_enter Tryz.func99, Tryz.ntmps99
  go_wp2
  go_loopw [0, 4, 5] (fun nv sv fv wr => ∃ (m : Nat) (acc : Bs) (f : Bool), m ≤ n ∧ nv = .int .i64 (m : Int) ∧ sv = .string (mkS acc) ∧ fv = .bool f ∧ decRest m f ++ acc = Lib.decDigits n ∧ Below w.heap.size w wr) (fun nv _ fv _ => (intOf nv).toNat * 2 + (match fv with | .bool true => 1 | _ => 0))
  case atStart => exact ⟨n, [], true, Nat.le_refl _, rfl, rfl, rfl, by rw [decRest_true, List.append_nil], Below.refl _ _⟩
  case round =>
    obtain ⟨m, acc, f, hm, rfl, rfl, rfl, hd, hb⟩ := hrel
    have HD := hidX hd
    have hs2 : ∀ x : UInt8, ¬ 9223372036854775807 < (mkS [x]).size + (mkS acc).size := fun x => size_two x acc (decRest_short hd (by omega))
    clear hd
    have hcv := HC.out
    have hA : ∀ o, Below w.heap.size w (wr.alloc o) := fun o => hb.alloc hb.size _
    cases f
    · by_cases h0 : 0 < m
      · have h0' : (0 : Int) < (m : Int) := by omega
        go_wp2
        refine ⟨⟨m / 10, UInt8.ofNat (48 + m % 10) :: acc, false, by omega, by go_num, by rw [mkS_app, byte_add]; rfl, rfl, by rw [← decRest_step (.inl h0)]; exact HD.out, hA _⟩, ?_⟩
        simp [intOf]
        omega
      · have h0' : ¬ (0 : Int) < (m : Int) := by omega
        obtain rfl : m = 0 := by omega
        go_wp2
        go_ret
        exact ⟨ret_txt (by rw [← HD.out, decRest_done]), hb⟩
    · go_wp2
      refine ⟨⟨m / 10, UInt8.ofNat (48 + m % 10) :: acc, false, by omega, by go_num, by rw [mkS_app, byte_add]; rfl, rfl, by rw [← decRest_step (.inr rfl)]; exact HD.out, hA _⟩, ?_⟩
      simp [intOf]
      omega

set_option maxHeartbeats 1600000 in
theorem l1Dec_neg (n : Nat) (w : World) (h1 : 1 ≤ n) (hn : n ≤ 9223372036854775808) : Calls Tryz.prog 99 #[.int .i64 (-(n : Int))] w fun e w' => e = .returned (.string (mkS (45 :: Lib.decDigits n))) ∧ Below w.heap.size w w' := by
  have hk0 : -(n : Int) < 0 := by omega
  have HC := hidX run_convT
  go_enter Tryz.func99, Tryz.ntmps99
  go_wp2
  go_loopw [0, 3] (fun nv sv wr => ∃ (m : Nat) (acc : Bs), m ≤ n ∧ nv = .int .i64 (-(m : Int)) ∧ sv = .string (mkS acc) ∧ decRest m false ++ acc = Lib.decDigits n ∧ Below w.heap.size w wr) (fun nv _ _ => (-(intOf nv)).toNat)
  case atStart => exact ⟨n, [], Nat.le_refl _, rfl, rfl, by rw [List.append_nil]; unfold decRest; rw [if_neg (by omega)], Below.refl _ _⟩
  case round =>
    obtain ⟨m, acc, hm, rfl, rfl, hd, hb⟩ := hrel
    have HD := hidX hd
    have hs2 : ∀ x : UInt8, ¬ 9223372036854775807 < (mkS [x]).size + (mkS acc).size := fun x => size_two x acc (decRest_short hd (by omega))
    have hs3 : ¬ 9223372036854775807 < ({ data := #[45] } : ByteArray).size + (mkS acc).size := size_one _ acc (by decide) (decRest_short hd (by omega))
    clear hd
    have hcv := HC.out
    have hA : ∀ o, Below w.heap.size w (wr.alloc o) := fun o => hb.alloc hb.size _
    by_cases h0 : 0 < m
    · have h0' : -(m : Int) < 0 := by omega
      go_wp2
      refine ⟨⟨m / 10, UInt8.ofNat (48 + m % 10) :: acc, by omega, by go_num, by rw [mkS_app, byte_add]; rfl, by rw [← decRest_step (.inl h0)]; exact HD.out, hA _⟩, ?_⟩
      simp [intOf]
      omega
    · have h0' : ¬ -(m : Int) < 0 := by omega
      obtain rfl : m = 0 := by omega
      go_wp2
      go_ret
      refine ⟨?_, hb⟩
      rw [← HD.out, decRest_done]
      exact congrArg (fun x => Ending.returned (.string x)) (mkS_app [45] acc)

theorem l1Dec_num (n : Int) (w : World) (hn : numOk n) : Calls Tryz.prog 99 #[.int .i64 n] w fun e w' => e = .returned (.string (mkS (Lib.itoa n))) ∧ Below w.heap.size w w' := by
  obtain ⟨h0, h1⟩ := hn
  by_cases h : n < 0
  · obtain ⟨u, rfl⟩ : ∃ u : Nat, n = -(u : Int) := ⟨n.natAbs, by omega⟩
    rw [Lib.itoa_neg u (by omega)]
    exact l1Dec_neg u w (by omega) (by omega)
  · obtain ⟨u, rfl⟩ : ∃ u : Nat, n = (u : Int) := ⟨n.natAbs, by omega⟩
    rw [Lib.itoa_nonneg u]
    exact l1Dec_pos u w (by omega)

end Go.Proofs.YtdhpoagjmiligaaGreatDoor

namespace Go.Proofs.YtdhpoagjmiligaaGreatDoor
open Go.RowKit

def icells (xs : List Int) : List Value := xs.map (Value.int .i64)
structure OLL (w : World) (base : Nat) (v : Value) (n : Nat) (xss : List (List Int)) (vs : List Value) : Prop where
  num : n = xss.length
  len : vs.length = xss.length
  own : w.ownsRow base 82 1 v n vs
  each : ∀ (i : Nat) (xs : List Int) (x : Value), xss[i]? = some xs → vs[i]? = some x → (∃ a c, x = .slice a xs.length c) ∧ w.ownsRow base 3 1 x xs.length (icells xs)
  apart : ∀ x ∈ vs, Apart v x
  pair : vs.Pairwise Apart

/-- A block of theirs. -/
def InLL (v : Value) (vs : List Value) (g : Nat) : Prop := v.ownBlock = some g ∨ ∃ x ∈ vs, x.ownBlock = some g

theorem OLL.each' {w : World} {base : Nat} {v : Value} {n : Nat} {xss : List (List Int)} {vs : List Value} (h : OLL w base v n xss vs) {x : Value} (hx : x ∈ vs) : ∃ xs ∈ xss, w.ownsRow base 3 1 x xs.length (icells xs) := by
  obtain ⟨i, hi, rfl⟩ := List.getElem_of_mem hx
  have hf : i < xss.length := by rw [← h.len]; exact hi
  exact ⟨xss[i], List.getElem_mem hf, (h.each i _ _ (List.getElem?_eq_getElem hf) (List.getElem?_eq_getElem hi)).2⟩
theorem OLL.range {w : World} {base : Nat} {v : Value} {n : Nat} {xss : List (List Int)} {vs : List Value} (h : OLL w base v n xss vs) {g : Nat} (hg : InLL v vs g) : base ≤ g ∧ g < w.heap.size := by
  rcases hg with hg | ⟨x, hx, hg⟩
  · exact h.own.lt g hg
  · obtain ⟨xs, _, ho⟩ := h.each' hx
    exact ho.lt g hg
theorem OLL.kept {w w' : World} {base : Nat} {v : Value} {n : Nat} {xss : List (List Int)} {vs : List Value} (h : OLL w base v n xss vs) (hb : ∀ g, InLL v vs g → w'.heap[g]? = w.heap[g]?) : OLL w' base v n xss vs :=
  ⟨h.num, h.len, owns_of_block h.own (fun g hg => hb g (.inl hg)), fun i f x hf hx => ⟨(h.each i f x hf hx).1, owns_of_block (h.each i f x hf hx).2 (fun g hg => hb g (.inr ⟨x, List.mem_of_getElem? hx, hg⟩))⟩, h.apart, h.pair⟩
theorem OLL.below {w w' : World} {base : Nat} {v : Value} {n : Nat} {xss : List (List Int)} {vs : List Value} (h : OLL w base v n xss vs) (hb : Below w.heap.size w w') : OLL w' base v n xss vs :=
  h.kept fun g hg => hb.block g (h.range hg).2
theorem OLL.nil (w : World) (base : Nat) : OLL w base (.slice none 0 0) 0 [] [] :=
  ⟨rfl, rfl, World.ownsRow_nil _ _ _ _, fun i f x hf => by simp at hf, fun x hx => by simp at hx, List.Pairwise.nil⟩

/-- One list more, by append. -/
theorem OLL.snoc {w w' : World} {base : Nat} {v v' : Value} {n : Nat} {xss : List (List Int)} {vs : List Value} {xs : List Int} {x : Value} (h : OLL w base v n xss vs) (hx : (∃ a c, x = .slice a xs.length c) ∧ w.ownsRow base 3 1 x xs.length (icells xs))
    (hxv : Apart v x) (hxs : ∀ y ∈ vs, Apart y x) (ho : w'.ownsRow base 82 1 v' (n + 1) (vs ++ [x])) (hg : w.grownBy w' v.ownBlock) (hl : v'.ownBlock = v.ownBlock ∨ v'.ownBlock = some w.heap.size) : OLL w' base v' (n + 1) (xss ++ [xs]) (vs ++ [x]) := by
  have hblk : ∀ y : Value, (y ∈ vs ∨ y = x) → ∀ g, y.ownBlock = some g → g < w.heap.size ∧ w'.heap[g]? = w.heap[g]? := by
    intro y hy g hgy
    have hlt : g < w.heap.size := by
      rcases hy with hy | rfl
      · exact (h.range (.inr ⟨y, hy, hgy⟩)).2
      · exact (hx.2.lt g hgy).2
    refine ⟨hlt, hg.block g hlt ?_⟩
    intro e
    rcases hy with hy | rfl
    · exact h.apart y hy g e.symm hgy
    · exact hxv g e.symm hgy
  have hapart : ∀ y : Value, (y ∈ vs ∨ y = x) → Apart v' y := by
    intro y hy g hgv hgy
    rcases hl with hl | hl
    · rw [hl] at hgv
      rcases hy with hy | rfl
      · exact h.apart y hy g hgv hgy
      · exact hxv g hgv hgy
    · rw [hl] at hgv
      injection hgv with hgv
      have := (hblk y hy g hgy).1
      omega
  refine ⟨by simp [h.num], by simp [h.len], ho, ?_, ?_, ?_⟩
  · intro i f y hf hy
    by_cases hi : i < xss.length
    · rw [List.getElem?_append_left hi] at hf
      rw [List.getElem?_append_left (by rw [h.len]; exact hi)] at hy
      exact ⟨(h.each i f y hf hy).1, owns_of_block (h.each i f y hf hy).2 (fun g hgy => (hblk y (.inl (List.mem_of_getElem? hy)) g hgy).2)⟩
    · have hil : i < (xss ++ [xs]).length := (List.getElem?_eq_some_iff.1 hf).1
      simp at hil
      obtain rfl : i = xss.length := by omega
      simp at hf
      rw [List.getElem?_append_right (by rw [h.len]; exact Nat.le_refl _)] at hy
      simp [h.len] at hy
      subst hf hy
      exact ⟨hx.1, owns_of_block hx.2 (fun g hgy => (hblk _ (.inr rfl) g hgy).2)⟩
  · intro y hy
    rcases List.mem_append.1 hy with hy | hy
    · exact hapart y (.inl hy)
    · simp at hy
      exact hapart y (.inr hy)
  · rw [List.pairwise_append]
    exact ⟨h.pair, by simp, fun y hy z hz => by simp at hz; subst hz; exact hxs y hy⟩

theorem IntsAt.owns {w : World} {base n : Nat} {a : Option Addr} {c : Nat} {xs : List Int} (h : w.ownsRow base 3 1 (.slice a n c) n (icells xs)) : IntsAt none w a xs := by
  intro i s hs
  have k0 : (icells xs)[i]? = some (.int .i64 s) := by simp [icells, hs]
  obtain ⟨g, rfl, _, h0, _⟩ := owns_cell h k0
  refine ⟨g, 0, [.int .i64 s], rfl, Qb.bare _ _ _, rfl, ?_, rfl⟩
  intro j v hj
  have hj0 : j = 0 := by
    have := (List.getElem?_eq_some_iff.1 hj).1
    simp at this
    exact this
  subst hj0
  simp at hj
  subst hj
  simpa using h0
/-- Lists of numbers that lie in memory. -/
def IssAt (w : World) (a : Option Addr) (xss : List (List Int)) : Prop :=
  ∀ (i : Nat) (xs : List Int), xss[i]? = some xs → ∃ b o a' c', a = some ⟨b, o, none⟩ ∧ w.cell? ⟨b, o + i, none⟩ = some (.slice a' xs.length c') ∧ IntsAt none w a' xs
theorem IssAt.below {w w' : World} {a : Option Addr} {xss : List (List Int)} (h : IssAt w a xss) (hb : Below w.heap.size w w') : IssAt w' a xss := by
  intro i xs hx
  obtain ⟨b, o, a', c', e, hc, hi⟩ := h i xs hx
  exact ⟨b, o, a', c', e, cell_below hb hc, hi.below hb⟩
theorem OLL.at {w : World} {base : Nat} {a : Option Addr} {n c : Nat} {xss : List (List Int)} {vs : List Value} (h : OLL w base (.slice a n c) n xss vs) : IssAt w a xss := by
  intro i xs hx
  have hi : i < xss.length := (List.getElem?_eq_some_iff.1 hx).1
  have hv : vs[i]? = some (vs[i]'(by rw [h.len]; exact hi)) := List.getElem?_eq_getElem _
  obtain ⟨⟨a', c', e⟩, ho⟩ := h.each i xs _ hx hv
  obtain ⟨g, rfl, _, h0, _⟩ := owns_cell h.own hv
  rw [e] at h0 ho
  exact ⟨g, 0, a', c', rfl, by simpa using h0, IntsAt.owns ho⟩
end Go.Proofs.YtdhpoagjmiligaaGreatDoor

namespace Go.Proofs.YtdhpoagjmiligaaGreatDoor
open Go.RowKit

/-- w' is w but for block b and new ones. -/
structure MkO (b : Option Nat) (w w' : World) : Prop where
  rest : Below 0 w w'
  block : ∀ g, g < w.heap.size → b ≠ some g → w'.heap[g]? = w.heap[g]?
theorem MkO.refl (b : Option Nat) (w : World) : MkO b w w := ⟨Below.refl _ _, fun _ _ _ => rfl⟩
theorem MkO.trans {b : Option Nat} {u v w : World} (h : MkO b u v) (k : MkO b v w) : MkO b u w :=
  ⟨h.rest.trans k.rest, fun g hg hs => (k.block g (Nat.lt_of_lt_of_le hg h.rest.size) hs).trans (h.block g hg hs)⟩
theorem MkO.of_below {b : Option Nat} {u v : World} (h : Below u.heap.size u v) : MkO b u v := ⟨h.mono (Nat.zero_le _), fun g hg _ => h.block g hg⟩
theorem MkO.set {w : World} {g o : Nat} (x : Value) : MkO (some g) w (w.setCell ⟨g, o, none⟩ x) :=
  ⟨(Below.refl _ _).setCell (Nat.zero_le _) _, fun h _ hs => Below.heap_setCell _ _ _ _ (fun e => hs (by rw [e]))⟩
theorem MkO.below {b : Option Nat} {w w' : World} {B : Nat} (h : MkO b w w') (hB : B ≤ w.heap.size) (hs : ∀ g, b = some g → B ≤ g) : Below B w w' :=
  ⟨h.rest.os, h.rest.tape, h.rest.output, h.rest.size, fun k hk => h.block k (by omega) (fun e => by have := hs k e; omega)⟩
end Go.Proofs.YtdhpoagjmiligaaGreatDoor

namespace Go.Proofs.YtdhpoagjmiligaaGreatDoor
open Go.RowKit
attribute [local go_sem ↓] Go.wp_at_zero Go.wp_at_succ

/-- Bytes that lie in memory. -/
def BysAt (w : World) (a : Option Addr) (l : Bs) : Prop := ∀ (j : Nat) x, l[j]? = some x → ∃ b o, a = some ⟨b, o, none⟩ ∧ b < w.heap.size ∧ w.cell? ⟨b, o + j, none⟩ = some (.int .u8 (x.toNat : Int))
theorem BysAt.below {w w' : World} {a : Option Addr} {l : Bs} (h : BysAt w a l) (hb : Below w.heap.size w w') : BysAt w' a l := fun j x hx => by
  obtain ⟨b, o, e, hl, hc⟩ := h j x hx
  exact ⟨b, o, e, Nat.lt_of_lt_of_le hl hb.size, cell_below hb hc⟩
def byV (l : Bs) : List Value := l.map fun x => Value.int .u8 (x.toNat : Int)
theorem byV_len (l : Bs) : (byV l).length = l.length := List.length_map _
theorem BysAt.owns {w : World} {base n : Nat} {a : Option Addr} {c : Nat} {l : Bs} (h : w.ownsRow base 5 1 (.slice a n c) n (byV l)) : BysAt w a l := fun j x hx => by
  obtain ⟨g, hg, _, hc, _⟩ := owns_cell h (j := j) (x := .int .u8 (x.toNat : Int)) (by simp [byV, hx])
  exact ⟨g, 0, hg, World.block_lt_of_cell? _ _ hc, by rw [Nat.zero_add]; exact hc⟩

set_option maxHeartbeats 800000 in
theorem eqByteS_same (a a' : Option Addr) (c c' : Nat) (l : Bs) (w : World) (hv : BysAt w a l) (hv' : BysAt w a' l) (hl : l.length ≤ 1000000000000) :
    Calls Tryz.prog 9 #[.slice a l.length c, .slice a' l.length c'] w fun e w' => e = .returned (.bool true) ∧ Below w.heap.size w w' := by
  go_enter Tryz.func9, Tryz.ntmps9
  go_wp2
  go_loopw [5] (fun i wr => ∃ (j : Nat), j ≤ l.length ∧ i = .int .i64 (j : Int) ∧ Below w.heap.size w wr) (fun i _ => l.length - (intOf i).toNat)
  case atStart => exact ⟨0, by omega, rfl, Below.refl _ _⟩
  case round =>
    obtain ⟨j, hj, rfl, hb⟩ := hrel
    by_cases hjl : j < l.length
    · obtain ⟨x, hx⟩ : ∃ x, l[j]? = some x := ⟨l[j], by simp [hjl]⟩
      obtain ⟨b, o, rfl, _, d0⟩ := (hv.below hb) j x hx
      obtain ⟨b', o', rfl, _, d0'⟩ := (hv'.below hb) j x hx
      have i0 : (0 : Int) ≤ (j : Int) := by omega
      have i1 : (j : Int) < (l.length : Int) := by omega
      have hB := hb.drew
      clear hv hv' hx
      go_wp2
      first
      | (go_region)
      | fail
      all_goals go_wp2
      all_goals go_roundw
      all_goals first
        | exact ⟨j + 1, by omega, by go_num, hB⟩
        | (simp [intOf]; omega)
    · have i1 : ¬ (j : Int) < (l.length : Int) := by omega
      go_wp2
      go_ret
      exact ⟨rfl, hb⟩
/-- What marks are. -/
def mkBy (k : Int) (n : Nat) : List Value := (List.range n).map fun (j : Nat) => Value.int .u8 ((k + (j : Int)) % 256)
theorem mkBy_len (k : Int) (n : Nat) : (mkBy k n).length = n := by simp [mkBy]
theorem mkBy_succ (k : Int) (n : Nat) : mkBy k (n + 1) = mkBy k n ++ [.int .u8 ((k + (n : Int)) % 256)] := by simp [mkBy, List.range_succ]
end Go.Proofs.YtdhpoagjmiligaaGreatDoor

namespace Go.Proofs.YtdhpoagjmiligaaGreatDoor
open Go.RowKit

/-- One digit's text, as the conversion tells it. -/
def dg (q : Int) : ByteArray := strOfNums [48 + q % 10]
theorem dg_size (q : Int) : (dg q).size = 1 := by
  simp [dg, strOfNums]
  rfl
def dgs : Nat → Int → ByteArray → ByteArray
  | 0, _, t => t
  | f + 1, q, t => if 0 < q then dgs f (q / 10) (dg q ++ t) else t
theorem dgs_stop (f : Nat) (q : Int) (t : ByteArray) (h : ¬ 0 < q) : dgs f q t = t := by
  cases f with
  | zero => rfl
  | succ f => simp [dgs, h]
def mText (k : Int) : ByteArray := ⟨#[109]⟩ ++ dgs 20 k ⟨#[]⟩

theorem run_digit (q : Int) (w : World) : (convert 22 9 (.slice (some ⟨w.heap.size, 0, none⟩) 1 1)).run Tryz.prog (w.alloc (.cells #[.int .u8 (48 + q % 10)] 5)) = .ok (.string (dg q)) (w.alloc (.cells #[.int .u8 (48 + q % 10)] 5)) :=
  run_convert_bytes_arg (P := Tryz.prog) _ 22 5 Tryz.underlying22 Tryz.underlying5 w.heap.size 0 1 1 [48 + q % 10] rfl (fun i hi => by
    obtain rfl : i = 0 := by omega
    simp [go_sem]) 9 Tryz.underlying9

set_option maxRecDepth 100000 in
set_option maxHeartbeats 400000 in
theorem markText_any (k : Int) (w : World) (hk : 0 < k) (hk' : k ≤ 100000000) :
    Calls Tryz.prog 52 #[.int .i64 k] w fun e w' => e = .returned (.string (mText k)) ∧ Below w.heap.size w w' := by
  go_enter Tryz.func52, Tryz.ntmps52
  go_wp2
  go_loopw [0, 3] (fun i s wr => ∃ (q : Int) (t : ByteArray) (f : Nat), 0 ≤ q ∧ q ≤ k ∧ q < 10 ^ f ∧ f ≤ 20 ∧ i = .int .i64 q ∧ s = .string t ∧ t.size + f = 20 ∧ dgs 20 k ⟨#[]⟩ = dgs f q t ∧ Below w.heap.size w wr) (fun i _ _ => (intOf i).toNat)
  case atStart => exact ⟨k, _, 20, by omega, by omega, by omega, by omega, rfl, rfl, rfl, rfl, Below.refl _ _⟩
  case round =>
    obtain ⟨q, t, f, hq0, hq1, hqf, hf, rfl, rfl, ht, hd, hb⟩ := hrel
    have HD : Hid (dgs 20 k ⟨#[]⟩ = dgs f q t) := hd
    have HF : Hid (q < 10 ^ f) := hqf
    have HT : Hid (t.size + f = 20) := ht
    have hts : t.size ≤ 20 := by omega
    clear hd hqf ht
    by_cases hlt : 0 < q
    · have hcv := run_digit q wr
      have hds := dg_size q
      go_wp2
      go_roundw
      case rel =>
        cases f with
        | zero =>
          have := HF.out
          simp at this
          omega
        | succ f =>
          have h1 := HF.out
          have h2 := HT.out
          refine ⟨q / 10, _, f, by omega, by omega, ?_, by omega, rfl, rfl, ?_, ?_, hb.alloc hb.size _⟩
          · rw [Int.pow_succ] at h1
            omega
          · rw [ByteArray.size_append']
            omega
          · rw [HD.out, dgs, if_pos hlt]
      case measure => simp [intOf]; omega
    · go_wp2
      go_ret
      refine ⟨?_, hb⟩
      unfold mText
      rw [HD.out, dgs_stop _ _ _ (by omega)]
      rfl
end Go.Proofs.YtdhpoagjmiligaaGreatDoor

namespace Go.Proofs.YtdhpoagjmiligaaGreatDoor
open Go.RowKit

end Go.Proofs.YtdhpoagjmiligaaGreatDoor

namespace Go.Proofs.YtdhpoagjmiligaaGreatDoor
open Go.RowKit

theorem news_new (w : World) (L : List Value) (t : TypeId) (b : Nat) (hb : b = w.heap.size) (ad : Addr) (e : some (⟨b, 0, none⟩ : Addr) = some ad) (j : Nat) (u : Value) (h : L[j]? = some u) : (w.alloc (.cells L.toArray t)).cell? (ad.add j) = some u := by
  subst hb
  cases e
  rw [Addr.add_mid, Nat.zero_add]
  have hb := heap_alloc_new w (.cells L.toArray t)
  simp only [World.cell?, hb]
  simpa using h
theorem own_type {w : World} {base : Nat} {e : TypeId} {m : Nat} {v : Value} {n : Nat} {xs : List Value} (h : w.ownsRow base e m v n xs) {k : Nat} (hk : v.ownBlock = some k) : ∃ c, w.heap[k]? = some (.cells c e (0, 0)) := by
  rcases h.2 with ⟨rfl, _⟩ | ⟨g, cap, cur, rfl, _, h3, _⟩
  · simp [Value.ownBlock] at hk
  · simp [Value.ownBlock] at hk
    subst hk
    exact ⟨cur, h3⟩
/-- Rows of two types lie in two blocks. -/
theorem own_far {w : World} {k : Nat} {c c' : Array Value} {t t' : TypeId} {f f' : Nat × Nat} (h : w.heap[k]? = some (.cells c t f)) (h' : w.heap[k]? = some (.cells c' t' f')) (hne : t ≠ t') : False := by
  rw [h] at h'
  simp at h'
  exact hne h'.2.1
theorem lift_alloc {P : World → Prop} {w1 : World} {o : Obj} (h : ∀ wt, Below w1.heap.size w1 wt → wt.heap[w1.heap.size]? = some o → P wt) : P (w1.alloc o) := h _ ((Below.refl _ _).alloc (Nat.le_refl _) _) (heap_alloc_new _ _)
theorem own_bel {w w' : World} {base : Nat} {e : TypeId} {m : Nat} {v : Value} {n : Nat} {xs : List Value} (h : w.ownsRow base e m v n xs) (hb : Below w.heap.size w w') : w'.ownsRow base e m v n xs :=
  owns_of_block h fun k hk => hb.block k (h.lt k hk).2
theorem own_grown {w w' : World} {base : Nat} {e t : TypeId} {m : Nat} {v : Value} {n : Nat} {xs : List Value} {row : Option Nat} (h : w.ownsRow base e m v n xs) (hg : w.grownBy w' row) (ht : ∀ k, row = some k → ∃ c, w.heap[k]? = some (.cells c t (0, 0))) (hne : t ≠ e) : w'.ownsRow base e m v n xs :=
  owns_of_block h fun k hk => hg.block k (h.lt k hk).2 (fun e => by
    obtain ⟨c, hc⟩ := ht k e.symm
    obtain ⟨c', hc'⟩ := own_type h hk
    exact own_far hc hc' hne)
theorem box_grown {w w' : World} {b : Nat} {t t' : TypeId} {c : Array Value} {fr : Nat × Nat} {row : Option Nat} (h : w.heap[b]? = some (.cells c t fr)) (hg : w.grownBy w' row) (ht : ∀ k, row = some k → ∃ c, w.heap[k]? = some (.cells c t' (0, 0))) (hne : t' ≠ t) : w'.heap[b]? = some (.cells c t fr) :=
  (hg.block b (lt_of_block' h) (fun e => by
    obtain ⟨c', hc⟩ := ht b e.symm
    exact own_far hc h hne)).trans h
end Go.Proofs.YtdhpoagjmiligaaGreatDoor

namespace Go.Proofs.YtdhpoagjmiligaaGreatDoor
open Go.RowKit
attribute [local go_sem ↓] Go.wp_at_zero Go.wp_at_succ

def isSl : Value → Bool
  | .slice _ _ _ => true
  | _ => false
structure Tr (S : Nat → Prop) (w w' : World) : Prop where
  rest : Below 0 w w'
  block : ∀ g, g < w.heap.size → ¬ S g → w'.heap[g]? = w.heap[g]?
  keep : ∀ p v, w.cell? p = some v → isSl v = true → w'.cell? p = some v
  bare : ∀ p v, w.cell? p = some v → isSl v = false → ∃ v', w'.cell? p = some v' ∧ isSl v' = false
  free : ∀ p : Addr, p.block < w.heap.size → w'.frozen? p = w.frozen? p
theorem Tr.refl (S : Nat → Prop) (w : World) : Tr S w w := ⟨Below.refl _ _, fun _ _ _ => rfl, fun _ _ h _ => h, fun _ v h hs => ⟨v, h, hs⟩, fun _ _ => rfl⟩
theorem Tr.trans {S : Nat → Prop} {a b c : World} (h : Tr S a b) (k : Tr S b c) : Tr S a c :=
  ⟨h.rest.trans k.rest, fun g hg hs => (k.block g (Nat.lt_of_lt_of_le hg h.rest.size) hs).trans (h.block g hg hs), fun p v hv hs => k.keep p v (h.keep p v hv hs) hs, fun p v hv hs => by
    obtain ⟨v', h1, h2⟩ := h.bare p v hv hs
    exact k.bare p v' h1 h2, fun p hp => (k.free p (Nat.lt_of_lt_of_le hp h.rest.size)).trans (h.free p hp)⟩
theorem Tr.set {S : Nat → Prop} {w : World} {p : Addr} {v : Value} (hp : S p.block) (hv : w.cell? p = some v) (hs : isSl v = false) {u : Value} (hu : isSl u = false) : Tr S w (w.setCell p u) := by
  refine ⟨(Below.refl _ _).setCell (Nat.zero_le _) _, fun g _ hn => Below.heap_setCell _ _ _ _ (fun e => hn (e ▸ hp)), ?_, ?_, fun q _ => World.frozen?_setCell w p q u⟩
  · intro q x hx hxs
    by_cases hq : p = q
    · subst hq
      rw [hv] at hx
      injection hx with hx
      subst hx
      rw [hs] at hxs
      cases hxs
    · rw [World.cell?_setCell_other w p q u hq]
      exact hx
  · intro q x hx hxs
    by_cases hq : p = q
    · subst hq
      exact ⟨u, World.cell?_setCell_same w p u hv, hu⟩
    · exact ⟨x, by rw [World.cell?_setCell_other w p q u hq]; exact hx, hxs⟩
theorem Tr.below {S : Nat → Prop} {w w' : World} {B : Nat} (h : Tr S w w') (hB : B ≤ w.heap.size) (hs : ∀ g, S g → B ≤ g) : Below B w w' :=
  ⟨h.rest.os, h.rest.tape, h.rest.output, h.rest.size, fun k hk => h.block k (by omega) (fun hS => by have := hs k hS; omega)⟩

end Go.Proofs.YtdhpoagjmiligaaGreatDoor

namespace Go.Proofs.YtdhpoagjmiligaaGreatDoor
open Go.RowKit

theorem wrapS {x y : Int} {d : Nat} (h : y = x + 1) (hx : 0 < x ∧ x + ((d + 1 : Nat) : Int) ≤ 100000000) : IntKind.i64.wrap (x + 1) = y ∧ 0 < y ∧ y + ((d : Nat) : Int) ≤ 100000000 := by
  subst h
  refine ⟨?_, by omega, by omega⟩
  rw [IntKind.wrap_i64]
  omega
theorem bndS {x : Int} {d : Nat} (h : 0 < x ∧ x + ((d : Nat) : Int) ≤ 100000000) : 0 < x ∧ x ≤ 100000000 := ⟨h.1, by omega⟩
end Go.Proofs.YtdhpoagjmiligaaGreatDoor

namespace Go.Proofs.YtdhpoagjmiligaaGreatDoor

def isDg (b : UInt8) : Bool := decide (48 ≤ b.toNat) && decide (b.toNat ≤ 57)
def dFrom (acc : Nat) (l : Bs) : Nat := l.foldl (fun a b => a * 10 + (b.toNat - 48)) acc
def dVal (l : Bs) : Nat := dFrom 0 l
/-- Digits as a number is written: no nought ahead but of nought itself. -/
def canon (l : Bs) : Prop := l ≠ [] ∧ l.all isDg = true ∧ (l.head? ≠ some 48 ∨ l = [48])
theorem dFrom_snoc (acc : Nat) (l : Bs) (b : UInt8) : dFrom acc (l ++ [b]) = dFrom acc l * 10 + (b.toNat - 48) := by simp [dFrom]
theorem dFrom_cons (acc : Nat) (b : UInt8) (l : Bs) : dFrom acc (b :: l) = dFrom (acc * 10 + (b.toNat - 48)) l := by
  unfold dFrom
  rw [List.foldl_cons]
theorem dg_toNat {m : Nat} (h : m < 10) : (UInt8.ofNat (48 + m)).toNat = 48 + m := by
  rw [UInt8.toNat_ofNat']
  exact Nat.mod_eq_of_lt (by omega)
theorem dVal_digits : ∀ u : Nat, dVal (Lib.decDigits u) = u := by
  intro u
  induction u using Nat.strongRecOn with
  | _ u ih =>
    rw [Lib.decDigits]
    by_cases h : u < 10
    · rw [dif_pos h]
      unfold dVal dFrom
      rw [List.foldl_cons, List.foldl_nil, dg_toNat h]
      omega
    · rw [dif_neg h, dVal, dFrom_snoc, dg_toNat (by omega)]
      have := ih (u / 10) (by omega)
      unfold dVal at this
      rw [this]
      omega
theorem isDg_of {m : Nat} (h : m < 10) : isDg (UInt8.ofNat (48 + m)) = true := by
  unfold isDg
  rw [dg_toNat h]
  simp
  omega
theorem digits_all : ∀ u : Nat, (Lib.decDigits u).all isDg = true := by
  intro u
  induction u using Nat.strongRecOn with
  | _ u ih =>
    rw [Lib.decDigits]
    by_cases h : u < 10
    · rw [dif_pos h]
      rw [List.all_cons, isDg_of h]
      rfl
    · rw [dif_neg h, List.all_append, ih (u / 10) (by omega)]
      rw [List.all_cons, isDg_of (by omega)]
      rfl
theorem digits_ne (u : Nat) : Lib.decDigits u ≠ [] := by
  intro h
  have := Lib.decDigits_length u
  rw [h] at this
  have := Lib.nDigits_pos u
  simp at *
  omega
theorem digits_head : ∀ u : Nat, 0 < u → (Lib.decDigits u).head? ≠ some 48 := by
  intro u
  induction u using Nat.strongRecOn with
  | _ u ih =>
    intro h0
    rw [Lib.decDigits]
    by_cases h : u < 10
    · rw [dif_pos h]
      intro e
      have e' : UInt8.ofNat (48 + u) = 48 := by simpa using e
      have := congrArg UInt8.toNat e'
      rw [dg_toNat h] at this
      have h48 : (48 : UInt8).toNat = 48 := rfl
      omega
    · rw [dif_neg h]
      have h1 := ih (u / 10) (by omega) (by omega)
      have h2 := digits_ne (u / 10)
      cases hd : Lib.decDigits (u / 10) with
      | nil => exact absurd hd h2
      | cons x r =>
        rw [hd] at h1
        simpa using h1
theorem dg_back {b : UInt8} (h : isDg b = true) : UInt8.ofNat (48 + (b.toNat - 48)) = b := by
  unfold isDg at h
  simp at h
  rw [show 48 + (b.toNat - 48) = b.toNat by omega]
  simp
theorem dg_lt {b : UInt8} (h : isDg b = true) : b.toNat - 48 < 10 := by
  unfold isDg at h
  simp at h
  omega
theorem dFrom_le : ∀ (l : Bs) (acc : Nat), acc ≤ dFrom acc l
  | [], acc => Nat.le_refl _
  | b :: l, acc => by
    rw [dFrom_cons]
    have := dFrom_le l (acc * 10 + (b.toNat - 48))
    omega
/-- Digits in the right form are what their number is written as. -/
theorem digits_dVal : ∀ (n : Nat) (l : Bs), l.length = n → canon l → Lib.decDigits (dVal l) = l := by
  intro n
  induction n with
  | zero => exact fun l h hc => absurd (List.eq_nil_of_length_eq_zero h) hc.1
  | succ n ih =>
    intro l hl hc
    obtain ⟨hne, hall, hh⟩ := hc
    obtain ⟨r, b, rfl⟩ : ∃ r b, l = r ++ [b] := ⟨l.dropLast, l.getLast hne, (List.dropLast_concat_getLast hne).symm⟩
    have hrl : r.length = n := by simpa using hl
    rw [List.all_append] at hall
    simp at hall
    obtain ⟨hra, hb⟩ := hall
    cases r with
    | nil =>
      simp only [List.nil_append, dVal, dFrom, List.foldl_cons, List.foldl_nil, Nat.zero_mul, Nat.zero_add]
      rw [Lib.decDigits, dif_pos (dg_lt hb)]
      rw [dg_back hb]
    | cons x r =>
      have hx48 : x ≠ 48 := by
        rcases hh with hh | hh
        · simpa using hh
        · simp at hh
      have hcr : canon (x :: r) := ⟨by simp, by simpa using hra, .inl (by simpa using hx48)⟩
      have h1 := ih (x :: r) hrl hcr
      have hpos : 0 < dVal (x :: r) := by
        have hx : isDg x = true := hra x (by simp)
        have h2 : 0 < x.toNat - 48 := by
          unfold isDg at hx
          simp at hx
          have h3 : x.toNat ≠ 48 := fun e => hx48 (UInt8.toNat_inj.1 (by rw [e]; rfl))
          omega
        unfold dVal
        rw [dFrom_cons]
        have := dFrom_le r (0 * 10 + (x.toNat - 48))
        omega
      have hd := dg_lt hb
      have e : dVal (x :: r ++ [b]) = dVal (x :: r) * 10 + (b.toNat - 48) := dFrom_snoc _ _ _
      rw [e, Lib.decDigits, dif_neg (by omega)]
      rw [show (dVal (x :: r) * 10 + (b.toNat - 48)) / 10 = dVal (x :: r) by omega, show (dVal (x :: r) * 10 + (b.toNat - 48)) % 10 = b.toNat - 48 by omega, h1, dg_back hb]

/-- What a word says as a number. -/
def spell (s : Bs) : Int := match s with
  | [] => 0
  | b :: d => if b = 45 then -(dVal d : Int) else (dVal (b :: d) : Int)
def numOf (s : Bs) : Option Int := if decide (-9223372036854775808 ≤ spell s) && (decide (spell s ≤ 9223372036854775807) && decide (Lib.itoa (spell s) = s)) then some (spell s) else none
theorem digit_ne45 {b : UInt8} (h : isDg b = true) : b ≠ 45 := by
  rintro rfl
  exact absurd h (by decide)
theorem spell_digits (u : Nat) : spell (Lib.decDigits u) = (u : Int) := by
  have h1 := digits_ne u
  have h2 := digits_all u
  have h3 := dVal_digits u
  cases hd : Lib.decDigits u with
  | nil => exact absurd hd h1
  | cons b d =>
    rw [hd] at h2 h3
    simp at h2
    unfold spell
    simp only
    rw [if_neg (digit_ne45 h2.1), h3]
theorem spell_itoa (n : Int) : spell (Lib.itoa n) = n := by
  unfold Lib.itoa
  by_cases h : n < 0
  · rw [if_pos h]
    unfold spell
    simp only [if_pos]
    rw [dVal_digits]
    omega
  · rw [if_neg h, spell_digits]
    omega
theorem numOf_itoa {n : Int} (hn : numOk n) : numOf (Lib.itoa n) = some n := by
  have e := spell_itoa n
  unfold numOf
  rw [e]
  simp [hn.1, hn.2]
theorem numOf_some {s : Bs} {n : Int} (h : numOf s = some n) : s = Lib.itoa n ∧ numOk n := by
  unfold numOf at h
  split at h
  · rename_i hc
    simp only [Bool.and_eq_true, decide_eq_true_eq] at hc
    injection h with h
    subst h
    exact ⟨hc.2.2.symm, hc.1, hc.2.1⟩
  · cases h

/-- The program's way. -/
def stripM (s : Bs) : Bs := if s.head? = some 45 then s.tail else s
theorem uintM_ok : ∀ (l : Bs) (acc : Nat), l.all isDg = true → acc ≤ 2 ^ 64 - 1 → Lib.parseUintM (2 ^ 64 - 1) acc l = if dFrom acc l ≤ 2 ^ 64 - 1 then .ok (dFrom acc l) else .range
  | [], acc, _, h => by
    have e : dFrom acc [] = acc := rfl
    rw [e, Lib.parseUintM, if_pos (by omega)]
  | b :: l, acc, ha, h => by
    simp at ha
    have hb := ha.1
    have hd := dg_lt hb
    unfold isDg at hb
    simp at hb
    rw [Lib.parseUintM, if_pos hb, dFrom_cons]
    have hle := dFrom_le l (acc * 10 + (b.toNat - 48))
    by_cases h1 : 1844674407370955162 ≤ acc
    · rw [if_pos h1, if_neg (by omega)]
    · rw [if_neg h1]
      by_cases h2 : 2 ^ 64 - 1 < acc * 10 + (b.toNat - 48)
      · rw [if_pos h2, if_neg (by omega)]
      · rw [if_neg h2]
        exact uintM_ok l _ (by simpa using ha.2) (by omega)
theorem itoa_pos {n : Int} (h : ¬ n < 0) : Lib.itoa n = Lib.decDigits n.toNat := by unfold Lib.itoa; rw [if_neg h]
theorem itoa_neg' {n : Int} (h : n < 0) : Lib.itoa n = 45 :: Lib.decDigits n.natAbs := by unfold Lib.itoa; rw [if_pos h]
theorem digits_not45 (u : Nat) : (Lib.decDigits u).head? ≠ some 45 := by
  have h2 := digits_all u
  cases hd : Lib.decDigits u with
  | nil => simp
  | cons b d =>
    rw [hd] at h2
    simp at h2
    simpa using digit_ne45 h2.1
theorem strip_itoa (n : Int) : stripM (Lib.itoa n) = Lib.decDigits n.natAbs := by
  unfold stripM
  by_cases h : n < 0
  · rw [itoa_neg' h]
    simp
  · rw [itoa_pos h, if_neg (digits_not45 _), show n.toNat = n.natAbs by omega]
theorem numOf_zero : numOf [48] = some 0 := by
  have e : Lib.itoa 0 = [48] := by rw [itoa_pos (by omega), Lib.decDigits]; rfl
  have := numOf_itoa (n := 0) ⟨by omega, by omega⟩
  rw [e] at this
  exact this
theorem numOf_bad1 {s : Bs} (h0 : s ≠ [48]) (h : stripM s = [] ∨ (stripM s).head? = some 48) : numOf s = none := by
  cases hn : numOf s with
  | none => rfl
  | some n =>
    obtain ⟨rfl, _⟩ := numOf_some hn
    rw [strip_itoa] at h
    rcases h with h | h
    · exact absurd h (digits_ne _)
    · by_cases hz : 0 < n.natAbs
      · exact absurd h (digits_head _ hz)
      · obtain rfl : n = 0 := by omega
        exact absurd (by rw [itoa_pos (by omega), Lib.decDigits]; rfl) h0
theorem numOf_bad2 {s : Bs} (h : (stripM s).all isDg = false) : numOf s = none := by
  cases hn : numOf s with
  | none => rfl
  | some n =>
    obtain ⟨rfl, _⟩ := numOf_some hn
    rw [strip_itoa, digits_all] at h
    cases h
theorem itoa_strip {s : Bs} (h1 : stripM s ≠ []) (h2 : (stripM s).head? ≠ some 48) (h3 : (stripM s).all isDg = true) : Lib.itoa (spell s) = s := by
  have hc : canon (stripM s) := ⟨h1, h3, .inl h2⟩
  have hd := digits_dVal _ _ rfl hc
  cases s with
  | nil => exact absurd rfl h1
  | cons b d =>
    by_cases hb : b = 45
    · subst hb
      have e : stripM (45 :: d) = d := rfl
      rw [e] at hd h1 h2 h3
      have hpos : 0 < dVal d := by
        by_cases hz : 0 < dVal d
        · exact hz
        · have : dVal d = 0 := by omega
          rw [this, Lib.decDigits, dif_pos (by omega)] at hd
          rw [← hd] at h2
          exact absurd rfl h2
      have e2 : spell (45 :: d) = -(dVal d : Int) := rfl
      rw [e2, itoa_neg' (by omega), show (-(dVal d : Int)).natAbs = dVal d by omega, hd]
    · have e : stripM (b :: d) = b :: d := by unfold stripM; rw [if_neg (by simpa using hb)]
      rw [e] at hd
      have e2 : spell (b :: d) = (dVal (b :: d) : Int) := by unfold spell; simp only [if_neg hb]
      rw [e2, itoa_pos (by omega), show ((dVal (b :: d) : Int)).toNat = dVal (b :: d) by omega, hd]
theorem pInt_eq {s : Bs} (h1 : stripM s ≠ []) (h3 : (stripM s).all isDg = true) : Lib.parseIntB 64 s = if -9223372036854775808 ≤ spell s ∧ spell s ≤ 9223372036854775807 then .ok (spell s) else .range := by
  cases s with
  | nil => exact absurd rfl h1
  | cons b d =>
    by_cases hb : b = 45
    · subst hb
      have e : stripM (45 :: d) = d := rfl
      rw [e] at h1 h3
      have hu : Lib.parseUintB 64 d = if dVal d ≤ 2 ^ 64 - 1 then .ok (dVal d) else .range := by
        unfold Lib.parseUintB
        rw [if_neg h1]
        exact uintM_ok d 0 h3 (by omega)
      have e2 : spell (45 :: d) = -(dVal d : Int) := rfl
      unfold Lib.parseIntB
      simp only
      have h45 : (45 : UInt8).toNat = 45 := rfl
      rw [if_pos (Or.inr h45), hu, e2]
      by_cases hr : dVal d ≤ 2 ^ 64 - 1
      · rw [if_pos hr]
        simp only
        rw [if_neg (by rw [h45]; omega)]
        by_cases hq : 2 ^ (64 - 1) < dVal d
        · rw [if_pos ⟨h45, hq⟩, if_neg (by omega)]
        · rw [if_neg (by omega), if_pos h45, if_pos (by omega)]
      · rw [if_neg hr]
        simp only
        rw [if_neg (by omega)]
    · have e : stripM (b :: d) = b :: d := by unfold stripM; rw [if_neg (by simpa using hb)]
      rw [e] at h3
      have hbd : isDg b = true := by simp at h3; exact h3.1
      have hb2 : ¬ (b.toNat = 43 ∨ b.toNat = 45) := by
        unfold isDg at hbd
        simp at hbd
        omega
      have hb3 : ¬ b.toNat = 45 := fun h => hb2 (.inr h)
      have hu : Lib.parseUintB 64 (b :: d) = if dVal (b :: d) ≤ 2 ^ 64 - 1 then .ok (dVal (b :: d)) else .range := by
        unfold Lib.parseUintB
        rw [if_neg (by simp)]
        exact uintM_ok (b :: d) 0 h3 (by omega)
      have e2 : spell (b :: d) = (dVal (b :: d) : Int) := by unfold spell; simp only [if_neg hb]
      unfold Lib.parseIntB
      simp only
      rw [if_neg hb2, hu, e2]
      by_cases hr : dVal (b :: d) ≤ 2 ^ 64 - 1
      · rw [if_pos hr]
        simp only
        by_cases hq : 2 ^ (64 - 1) ≤ dVal (b :: d)
        · rw [if_pos ⟨hb3, hq⟩, if_neg (by omega)]
        · rw [if_neg (fun h => hq h.2), if_neg (fun h => hb3 h.1), if_neg hb3, if_pos (by omega)]
      · rw [if_neg hr]
        simp only
        rw [if_neg (by omega)]
theorem numOf_good {s : Bs} (h1 : stripM s ≠ []) (h2 : (stripM s).head? ≠ some 48) (h3 : (stripM s).all isDg = true) : (∃ v, Lib.parseIntB 64 s = .ok v ∧ numOf s = some v) ∨ (Lib.parseIntB 64 s = .range ∧ numOf s = none) := by
  rw [pInt_eq h1 h3]
  have hi := itoa_strip h1 h2 h3
  unfold numOf
  by_cases hr : -9223372036854775808 ≤ spell s ∧ spell s ≤ 9223372036854775807
  · rw [if_pos hr]
    exact .inl ⟨_, rfl, by rw [if_pos (by simp [hr.1, hr.2, hi])]⟩
  · rw [if_neg hr]
    refine .inr ⟨rfl, ?_⟩
    rw [if_neg]
    intro hc
    simp only [Bool.and_eq_true, decide_eq_true_eq] at hc
    exact hr ⟨hc.1, hc.2.1⟩
theorem nDigits_low (u : Nat) (h : 19 < Lib.nDigits u) : 10 ^ 19 ≤ u := by
  by_cases hk : 10 ^ 19 ≤ u
  · exact hk
  · have hlt : u < 10 ^ 19 := by omega
    have key : ∀ (k v : Nat), v < 10 ^ (k + 1) → Lib.nDigits v ≤ k + 1 := by
      intro k
      induction k with
      | zero => intro v hv; rw [Lib.nDigits_small (by omega)]; omega
      | succ k ih =>
        intro v hv
        by_cases h10 : v < 10
        · rw [Lib.nDigits_small h10]; omega
        · rw [Lib.nDigits_big h10]
          have := ih (v / 10) (by rw [Nat.pow_succ] at hv; omega)
          omega
    have := key 18 u hlt
    omega
theorem numOf_len {s : Bs} {n : Int} (h : numOf s = some n) : (stripM s).length ≤ 19 ∧ 1 ≤ (stripM s).length ∧ (stripM s).all isDg = true := by
  obtain ⟨rfl, h0, h1⟩ := numOf_some h
  rw [strip_itoa]
  refine ⟨?_, ?_, digits_all _⟩
  · rw [Lib.decDigits_length]
    have h2 := Lib.lt_pow_nDigits n.natAbs
    by_cases hk : Lib.nDigits n.natAbs ≤ 19
    · exact hk
    · have h3 : (Lib.decDigits n.natAbs).length = Lib.nDigits n.natAbs := Lib.decDigits_length _
      have h4 := nDigits_low (n.natAbs) (by omega)
      omega
  · rw [Lib.decDigits_length]
    exact Lib.nDigits_pos _
end Go.Proofs.YtdhpoagjmiligaaGreatDoor

namespace Go.Proofs.YtdhpoagjmiligaaGreatDoor
open Go.RowKit
attribute [local go_sem ↓] Go.wp_at_zero Go.wp_at_succ

/-- A number that was looked for. -/
def IPost (s : Bs) (w : World) (e : Ending) (w' : World) : Prop := ∃ (n : Int) (b : Bool), e = .returned (.tuple #[.int .i64 n, .bool b]) ∧ numOf s = (if b then some n else none) ∧ Below w.heap.size w w'
theorem IPost.no {s : Bs} {w w' : World} {e : Ending} (n : Int) (he : e = .returned (.tuple #[.int .i64 n, .bool false])) (hn : numOf s = none) (hb : Below w.heap.size w w') : IPost s w e w' := ⟨n, false, he, by rw [hn]; rfl, hb⟩
theorem bs_extract (s : ByteArray) (h : 0 < s.size) : bsOf (s.extract 1 s.size) = (bsOf s).tail := by
  obtain ⟨⟨l⟩⟩ := s
  cases l with
  | nil => exact absurd h (Nat.lt_irrefl 0)
  | cons a l => simp [bsOf, ByteArray.extract, ByteArray.size, ByteArray.copySlice]
theorem bs_head (s : ByteArray) (h : 0 < s.size) : (bsOf s).head? = some s[0] := by
  obtain ⟨⟨l⟩⟩ := s
  cases l with
  | nil => exact absurd h (Nat.lt_irrefl 0)
  | cons a l => rfl
theorem byte45 {b : UInt8} : ((b.toNat : Int) = 45) ↔ b = 45 := by
  constructor
  · intro h
    exact UInt8.toNat_inj.1 (by have : (45 : UInt8).toNat = 45 := rfl; omega)
  · rintro rfl
    rfl
theorem all_take_step {l : Bs} {f : UInt8 → Bool} {k : Nat} (hk : k < l.length) (h : (l.take k).all f = true) (hb : f l[k] = true) : (l.take (k + 1)).all f = true := by
  rw [List.take_add_one, List.getElem?_eq_getElem hk, List.all_append, h]
  simp [hb]
theorem dFrom_takeS {l : Bs} {k : Nat} (hk : k < l.length) : dFrom 0 (l.take (k + 1)) = dFrom 0 (l.take k) * 10 + (l[k].toNat - 48) := by
  rw [List.take_add_one, List.getElem?_eq_getElem hk, Option.toList_some, dFrom_snoc]

theorem numOk_wrap (x : Int) : numOk (wrap64 x) := by
  unfold numOk wrap64
  omega
theorem wrap64_id {x : Int} (h0 : -9223372036854775808 ≤ x) (h1 : x ≤ 9223372036854775807) : wrap64 x = x := by
  unfold wrap64
  omega
theorem dFrom_app (acc : Nat) (a b : Bs) : dFrom acc (a ++ b) = dFrom (dFrom acc a) b := by
  unfold dFrom
  rw [List.foldl_append]
theorem dFrom_take_le (l : Bs) (k : Nat) : dFrom 0 (l.take k) ≤ dFrom 0 l := by
  have h : dFrom 0 l = dFrom (dFrom 0 (l.take k)) (l.drop k) := by rw [← dFrom_app, List.take_append_drop]
  rw [h]
  exact dFrom_le _ _
theorem spell_strip {s : Bs} (h : s.head? = some 45) : spell s = -(dVal (stripM s) : Int) := by
  cases s with
  | nil => cases h
  | cons b d =>
    have hb : b = 45 := by simpa using h
    subst hb
    rfl
theorem spell_nostrip {s : Bs} (h : s.head? ≠ some 45) : spell s = (dVal s : Int) := by
  cases s with
  | nil => rfl
  | cons b d =>
    have hb : b ≠ 45 := by simpa using h
    unfold spell
    simp only [if_neg hb]

set_option maxHeartbeats 3200000 in
theorem l2Int_any (s : ByteArray) (w : World) (hs : s.size ≤ 20000) : Calls Tryz.prog 66 #[.string s] w (IPost (bsOf s) w) := by
  by_cases h0 : 0 < s.size
  · have i0 : (0 : Int) < (s.size : Int) := by omega
    have i1 : (1 : Int) ≤ (s.size : Int) := by omega
    by_cases hm : (s[0].toNat : Int) = 45
    · have HDB : Hid (bsOf (s.extract 1 s.size) = stripM (bsOf s)) := show _ = _ from by
        rw [bs_extract s h0]
        unfold stripM
        rw [if_pos (by rw [bs_head s h0, byte45.1 hm])]
      have hDs : (s.extract 1 s.size).size + 1 = s.size := by simp; omega
      go_enter Tryz.func66, Tryz.ntmps66
      go_upto_region 4 with fail
      obtain ⟨D, hD⟩ : ∃ D : ByteArray, D = s.extract 1 s.size := ⟨_, rfl⟩
      rw [← hD] at HDB hDs ⊢
      have hDn : ¬ (D.size : Int) = (s.size : Int) := by omega
      clear hD
      by_cases hl1 : D.size < 1
      · have j1 : (D.size : Int) < 1 := by omega
        have HN : Hid (numOf (bsOf s) = none) := show _ = _ from by
          cases hn : numOf (bsOf s) with
          | none => rfl
          | some n => have h1 := (numOf_len hn).2.1; rw [← HDB.out, bs_length] at h1; omega
        go_wp2
        go_ret2
        exact IPost.no 0 rfl HN.out (Below.refl _ _)
      by_cases hl19 : 19 < D.size
      · have j1 : ¬ (D.size : Int) < 1 := by omega
        have j2 : (19 : Int) < (D.size : Int) := by omega
        have HN : Hid (numOf (bsOf s) = none) := show _ = _ from by
          cases hn : numOf (bsOf s) with
          | none => rfl
          | some n => have h1 := (numOf_len hn).1; rw [← HDB.out, bs_length] at h1; omega
        go_wp2
        go_ret2
        exact IPost.no 0 rfl HN.out (Below.refl _ _)
      have j1 : ¬ (D.size : Int) < 1 := by omega
      have j2 : ¬ (19 : Int) < (D.size : Int) := by omega
      go_wp2
      go_loop [5, 6] (fun nv iv => ∃ (k : Nat) (n : Int), k ≤ D.size ∧ iv = .int .i64 (k : Int) ∧ nv = .int .i64 n ∧ numOk n ∧ ((bsOf D).take k).all isDg = true ∧ (dVal (bsOf D) ≤ 9223372036854775808 → n = -(dFrom 0 ((bsOf D).take k) : Int))) (fun _ iv => D.size - (intOf iv).toNat)
      case atStart => exact ⟨0, 0, by omega, rfl, rfl, ⟨by omega, by omega⟩, by simp, fun _ => by simp [dFrom]⟩
      case round =>
        obtain ⟨k, n, hk, rfl, rfl, hnk, hall, hval⟩ := hrel
        have HALL := hidX hall
        have HVAL := hidX hval
        have HNK := hidX hnk
        clear hall hval hnk
        by_cases hkl : k < D.size
        · have k0 : (0 : Int) ≤ (k : Int) := by omega
          have k1 : (k : Int) < (D.size : Int) := by omega
          have hkb : k < (bsOf D).length := by rw [bs_length]; exact hkl
          have eb : (bsOf D)[k] = D[k] := byte_at D k hkl
          by_cases hd : isDg D[k] = true
          · have hd' := hd
            unfold isDg at hd'
            simp at hd'
            have b0 : ¬ (D[k].toNat : Int) < 48 := by omega
            have b1 : ¬ (57 : Int) < (D[k].toNat : Int) := by omega
            go_wp2
            refine ⟨⟨k + 1, _, by omega, by go_num, rfl, numOk_wrap _, all_take_step hkb HALL.out (by rw [eb]; exact hd), fun h => ?_⟩, ?_⟩
            · have h1 := dFrom_takeS hkb
              have h2 := dFrom_take_le (bsOf D) (k + 1)
              rw [eb] at h1
              have h3 := HVAL.out h
              have h4 : dFrom 0 (bsOf D) = dVal (bsOf D) := rfl
              have e1 : wrap64 (n * 10) = n * 10 := wrap64_id (by omega) (by omega)
              rw [e1, wrap64_id (by omega) (by omega), h1]
              omega
            · simp [intOf]
              omega
          · have HN : Hid (numOf (bsOf s) = none) := show _ = _ from by
              cases hn : numOf (bsOf s) with
              | none => rfl
              | some n =>
                have h1 := (numOf_len hn).2.2
                rw [← HDB.out] at h1
                have h2 := (List.all_eq_true.1 h1) _ (List.getElem_mem hkb)
                rw [eb] at h2
                exact absurd h2 hd
            have hd' : (D[k].toNat : Int) < 48 ∨ (57 : Int) < (D[k].toNat : Int) := by
              unfold isDg at hd
              simp at hd
              omega
            rcases hd' with b0 | b1
            · go_wp2
              go_ret2
              exact IPost.no 0 rfl HN.out (Below.refl _ _)
            · have b0 : ¬ (D[k].toNat : Int) < 48 := by omega
              go_wp2
              go_ret2
              exact IPost.no 0 rfl HN.out (Below.refl _ _)
        · have k1 : ¬ (k : Int) < (D.size : Int) := by omega
          obtain rfl : k = D.size := by omega
          have HV : Hid (∀ v, numOf (bsOf s) = some v → v = n) := fun v hv => by
            have h1 := (numOf_some hv).2
            have h2 : v = spell (bsOf s) := by
              obtain ⟨e, _⟩ := numOf_some hv
              rw [e, spell_itoa]
            have h3 : spell (bsOf s) = -(dVal (bsOf D) : Int) := by rw [HDB.out]; exact spell_strip (by rw [bs_head s h0, byte45.1 hm])
            have h4 := HVAL.out (by have := h1.1; omega)
            rw [List.take_of_length_le (by rw [bs_length]; exact Nat.le_refl _)] at h4
            rw [h2, h3, h4]
            rfl
          have HLD := hidX (l1Dec_num n w HNK.out)
          by_cases he : Lib.itoa n = bsOf s
          · have HS : Hid (mkS (Lib.itoa n) = s) := show _ = _ from by rw [he, mkS_bs]
            have HN : Hid (numOf (bsOf s) = some n) := show _ = _ from by rw [← he]; exact numOf_itoa HNK.out
            clear he
            go_wp2_with (go_at_call 99; refine HLD.out.mono ?_; rintro e w1 ⟨rfl, hb1⟩; rw [HS.out])
            go_ret2
            exact ⟨n, true, by simp, HN.out, hb1⟩
          · have hse : ((mkS (Lib.itoa n)).toList == s.toList) = false := by
              rw [bytes_beq]
              simp
              intro e
              exact he (by rw [← e]; rfl)
            have HN : Hid (numOf (bsOf s) = none) := show _ = _ from by
              cases hn : numOf (bsOf s) with
              | none => rfl
              | some v =>
                have := HV.out v hn
                subst this
                exact absurd (numOf_some hn).1.symm he
            clear he
            go_wp2_with (go_at_call 99; refine HLD.out.mono ?_; rintro e w1 ⟨rfl, hb1⟩)
            go_ret2
            exact IPost.no n rfl HN.out hb1
    · have HDB : Hid (bsOf s = stripM (bsOf s)) := show _ = _ from by
        unfold stripM
        rw [if_neg (by rw [bs_head s h0]; intro e; injection e with e; exact hm (byte45.2 e))]
      go_enter Tryz.func66, Tryz.ntmps66
      go_upto_region 4 with fail
      by_cases hl1 : s.size < 1
      · have j1 : (s.size : Int) < 1 := by omega
        have HN : Hid (numOf (bsOf s) = none) := show _ = _ from by
          cases hn : numOf (bsOf s) with
          | none => rfl
          | some n => have h1 := (numOf_len hn).2.1; rw [← HDB.out, bs_length] at h1; omega
        go_wp2
        go_ret2
        exact IPost.no 0 rfl HN.out (Below.refl _ _)
      by_cases hl19 : 19 < s.size
      · have j1 : ¬ (s.size : Int) < 1 := by omega
        have j2 : (19 : Int) < (s.size : Int) := by omega
        have HN : Hid (numOf (bsOf s) = none) := show _ = _ from by
          cases hn : numOf (bsOf s) with
          | none => rfl
          | some n => have h1 := (numOf_len hn).1; rw [← HDB.out, bs_length] at h1; omega
        go_wp2
        go_ret2
        exact IPost.no 0 rfl HN.out (Below.refl _ _)
      have j1 : ¬ (s.size : Int) < 1 := by omega
      have j2 : ¬ (19 : Int) < (s.size : Int) := by omega
      go_wp2
      go_loop [5, 6] (fun nv iv => ∃ (k : Nat) (n : Int), k ≤ s.size ∧ iv = .int .i64 (k : Int) ∧ nv = .int .i64 n ∧ numOk n ∧ ((bsOf s).take k).all isDg = true ∧ (dVal (bsOf s) ≤ 9223372036854775808 → n = -(dFrom 0 ((bsOf s).take k) : Int))) (fun _ iv => s.size - (intOf iv).toNat)
      case atStart => exact ⟨0, 0, by omega, rfl, rfl, ⟨by omega, by omega⟩, by simp, fun _ => by simp [dFrom]⟩
      case round =>
        obtain ⟨k, n, hk, rfl, rfl, hnk, hall, hval⟩ := hrel
        have HALL := hidX hall
        have HVAL := hidX hval
        have HNK := hidX hnk
        clear hall hval hnk
        by_cases hkl : k < s.size
        · have k0 : (0 : Int) ≤ (k : Int) := by omega
          have k1 : (k : Int) < (s.size : Int) := by omega
          have hkb : k < (bsOf s).length := by rw [bs_length]; exact hkl
          have eb : (bsOf s)[k] = s[k] := byte_at s k hkl
          by_cases hd : isDg s[k] = true
          · have hd' := hd
            unfold isDg at hd'
            simp at hd'
            have b0 : ¬ (s[k].toNat : Int) < 48 := by omega
            have b1 : ¬ (57 : Int) < (s[k].toNat : Int) := by omega
            go_wp2
            refine ⟨⟨k + 1, _, by omega, by go_num, rfl, numOk_wrap _, all_take_step hkb HALL.out (by rw [eb]; exact hd), fun h => ?_⟩, ?_⟩
            · have h1 := dFrom_takeS hkb
              have h2 := dFrom_take_le (bsOf s) (k + 1)
              rw [eb] at h1
              have h3 := HVAL.out h
              have h4 : dFrom 0 (bsOf s) = dVal (bsOf s) := rfl
              have e1 : wrap64 (n * 10) = n * 10 := wrap64_id (by omega) (by omega)
              rw [e1, wrap64_id (by omega) (by omega), h1]
              omega
            · simp [intOf]
              omega
          · have HN : Hid (numOf (bsOf s) = none) := show _ = _ from by
              cases hn : numOf (bsOf s) with
              | none => rfl
              | some n =>
                have h1 := (numOf_len hn).2.2
                rw [← HDB.out] at h1
                have h2 := (List.all_eq_true.1 h1) _ (List.getElem_mem hkb)
                rw [eb] at h2
                exact absurd h2 hd
            have hd' : (s[k].toNat : Int) < 48 ∨ (57 : Int) < (s[k].toNat : Int) := by
              unfold isDg at hd
              simp at hd
              omega
            rcases hd' with b0 | b1
            · go_wp2
              go_ret2
              exact IPost.no 0 rfl HN.out (Below.refl _ _)
            · have b0 : ¬ (s[k].toNat : Int) < 48 := by omega
              go_wp2
              go_ret2
              exact IPost.no 0 rfl HN.out (Below.refl _ _)
        · have k1 : ¬ (k : Int) < (s.size : Int) := by omega
          obtain rfl : k = s.size := by omega
          obtain ⟨m, hme⟩ : ∃ m, m = wrap64 (-n) := ⟨_, rfl⟩
          have HNM : Hid (numOk m) := show numOk m from by rw [hme]; exact numOk_wrap _
          have HV : Hid (∀ v, numOf (bsOf s) = some v → v = m) := fun v hv => by
            have h1 := (numOf_some hv).2
            have h2 : v = spell (bsOf s) := by
              obtain ⟨e, _⟩ := numOf_some hv
              rw [e, spell_itoa]
            have h3 : spell (bsOf s) = (dVal (bsOf s) : Int) := spell_nostrip (by rw [bs_head s h0]; intro e; injection e with e; exact hm (byte45.2 e))
            have h4 := HVAL.out (by have := h1.2; omega)
            rw [List.take_of_length_le (by rw [bs_length]; exact Nat.le_refl _)] at h4
            have h5 : dFrom 0 (bsOf s) = dVal (bsOf s) := rfl
            have h6 := h1.2
            rw [hme, wrap64_id (by omega) (by omega)]
            omega
          have HLD := hidX (l1Dec_num m w HNM.out)
          have HME := hidX hme
          by_cases he : Lib.itoa m = bsOf s
          · have HS : Hid (mkS (Lib.itoa m) = s) := show _ = _ from by rw [he, mkS_bs]
            have HN : Hid (numOf (bsOf s) = some m) := show _ = _ from by rw [← he]; exact numOf_itoa HNM.out
            clear he hme
            go_wp2_with (go_at_call 99; (try rw [← HME.out]); refine HLD.out.mono ?_; rintro e w1 ⟨rfl, hb1⟩; rw [HS.out])
            go_ret2
            exact ⟨m, true, by simp [HME.out], HN.out, hb1⟩
          · have hse : ((mkS (Lib.itoa m)).toList == s.toList) = false := by
              rw [bytes_beq]
              simp
              intro e
              exact he (by rw [← e]; rfl)
            have HN : Hid (numOf (bsOf s) = none) := show _ = _ from by
              cases hn : numOf (bsOf s) with
              | none => rfl
              | some v =>
                have := HV.out v hn
                subst this
                exact absurd (numOf_some hn).1.symm he
            clear he hme
            go_wp2_with (go_at_call 99; (try rw [← HME.out]); refine HLD.out.mono ?_; rintro e w1 ⟨rfl, hb1⟩)
            go_ret2
            exact IPost.no _ rfl HN.out hb1
  · have i0 : ¬ (0 : Int) < (s.size : Int) := by omega
    have hz : s.size = 0 := by omega
    have hn : numOf (bsOf s) = none := by
      refine numOf_bad1 (fun e => ?_) (.inl ?_)
      · have := bs_length s
        rw [e] at this
        simp at this
        omega
      · have : bsOf s = [] := List.eq_nil_of_length_eq_zero (by rw [bs_length]; exact hz)
        rw [this]
        rfl
    have HN := hidX hn
    have i2 : (s.size : Int) < 1 := by omega
    clear hn hz
    go_enter Tryz.func66, Tryz.ntmps66
    go_wp2
    go_ret2
    exact IPost.no 0 rfl HN.out (Below.refl _ _)
end Go.Proofs.YtdhpoagjmiligaaGreatDoor

namespace Go.Proofs.YtdhpoagjmiligaaGreatDoor

/-- Checked rules have right patterns, at most six. -/
theorem firstBad_noneM {α : Type} (f : α → Bool) : ∀ (l : List α) (k : Nat), firstBad f l k = none → ∀ x ∈ l, f x = true
  | [], _, _, x, hx => by simp at hx
  | y :: r, k, h, x, hx => by
    unfold firstBad at h
    cases hy : f y
    · rw [hy] at h
      simp at h
    · rw [hy] at h
      simp only [if_true] at h
      rcases List.mem_cons.1 hx with rfl | hx
      · exact hy
      · exact firstBad_noneM f r (k + 1) h x hx
theorem shape_pats {r : Ru} (h : shape r = none) : r.pats.length ≤ 6 ∧ ∀ p ∈ r.pats, gPt p = true := by
  unfold shape at h
  split at h
  · rename_i hh
    simp only [headOk, Bool.and_eq_true, decide_eq_true_eq] at hh
    refine ⟨hh.2.1, ?_⟩
    cases hb : firstBad gPt r.pats 1 with
    | some i => rw [hb] at h; cases h
    | none => exact firstBad_noneM gPt r.pats 1 hb
  · cases h
end Go.Proofs.YtdhpoagjmiligaaGreatDoor

namespace Go.Proofs.YtdhpoagjmiligaaGreatDoor

/-- Numbers that a machine has. -/
def RuN (r : Ru) : Prop := numOk r.sal ∧ (∀ p ∈ r.pats, ∀ t ∈ p.terms, numOk t.val.num) ∧ ∀ e ∈ r.exprs, numOk e.val.num
/-- What the texts ask of exprs. -/
def ExT (es : List Ex) (S : List Sp) : Prop := es.length ≤ 60 ∧ Spans es S ∧ S.length = es.length ∧ ∀ e ∈ es, numOk e.val.num
def AcT (es : List Ex) (a : Ac) : Prop := fieldsOk a = true ∧ a.args.length ≤ 6 ∧ ∀ v ∈ a.args, 0 ≤ v ∧ v < (es.length : Int)
def PtT (p : Pt) : Prop := gPt p = true ∧ ∀ t ∈ p.terms, numOk t.val.num
def RuT (r : Ru) : Prop := r.name.size ≤ 20 ∧ numOk r.sal ∧ r.pats.length ≤ 6 ∧ (∀ p ∈ r.pats, PtT p) ∧ r.acts.length ≤ 8 ∧ (∃ S, ExT r.exprs S) ∧ ∀ a ∈ r.acts, AcT r.exprs a

theorem argsGo_in {S : List Sp} : ∀ {l : List Int} {nx n : Nat}, argsGo S l nx = some n → ∀ v ∈ l, 0 ≤ v ∧ v < (S.length : Int)
  | [], _, _, _, v, hv => by simp at hv
  | x :: r, nx, n, h, v, hv => by
    unfold argsGo at h
    split at h
    · rename_i hc
      simp only [Bool.and_eq_true, decide_eq_true_eq] at hc
      rcases List.mem_cons.1 hv with rfl | hm
      · exact ⟨hc.1, hc.2.1⟩
      · exact argsGo_in h v hm
    · cases h
theorem actsGo_in {S : List Sp} : ∀ {l : List Ac} {nx k : Nat}, actsGo S l nx k = none → ∀ y ∈ l, fieldsOk y = true ∧ y.args.length ≤ 6 ∧ ∀ v ∈ y.args, 0 ≤ v ∧ v < (S.length : Int)
  | [], _, _, _, y, hy => by simp at hy
  | a :: r, nx, k, h, y, hy => by
    unfold actsGo at h
    cases hg : gAc S a nx with
    | none => rw [hg] at h; cases h
    | some n' =>
      rw [hg] at h
      rcases List.mem_cons.1 hy with rfl | hm
      · unfold gAc at hg
        split at hg
        · rename_i hc
          simp only [Bool.and_eq_true, decide_eq_true_eq] at hc
          exact ⟨hc.1, hc.2, argsGo_in hg⟩
        · cases hg
      · exact actsGo_in h y hm
theorem RuT.of {r : Ru} (h : shape r = none) (hn : RuN r) : RuT r := by
  obtain ⟨hp6, hpt⟩ := shape_pats h
  unfold shape at h
  split at h
  · rename_i hh
    simp only [headOk, Bool.and_eq_true, decide_eq_true_eq] at hh
    split at h
    · cases h
    · split at h
      · cases h
      · rename_i hlt
        have hS := (spansGo_spans (es := r.exprs) (l := r.exprs) (Spans.nil _) rfl).1
        have hfull : (spansGo [] r.exprs).length = r.exprs.length := by have := hS.1; omega
        have hf := actsGo_in h
        refine ⟨gSym_sz hh.1, hn.1, hp6, fun p hp => ⟨hpt p hp, hn.2.1 p hp⟩, hh.2.2.1, ⟨_, hh.2.2.2, hS, hfull, hn.2.2⟩, fun a ha => ⟨(hf a ha).1, (hf a ha).2.1, fun v hv => ?_⟩⟩
        have := (hf a ha).2.2 v hv
        rw [hfull] at this
        exact this
  · cases h

theorem spanT_leaf {S : List Sp} {e : Ex} {s : Sp} (h : spanOf S e = some s) (hk : e.kind ≠ 2) : (e.kind = 0 ∧ gVal e.val = true) ∨ (e.kind = 1 ∧ gSym e.var.data.toList = true) := by
  unfold spanOf at h
  by_cases k0 : e.kind = 0
  · simp [k0] at h
    exact .inl ⟨k0, h.1.2.2⟩
  by_cases k1 : e.kind = 1
  · simp [k1] at h
    exact .inr ⟨k1, h.1.2.1⟩
  · simp [k0, k1, hk] at h
theorem spanT_op {S : List Sp} {e : Ex} {s : Sp} (h : spanOf S e = some s) (hk : e.kind = 2) : isAr e.op = true := by
  unfold spanOf at h
  simp only [hk] at h
  rw [if_neg (by decide), if_neg (by decide), if_pos (by decide)] at h
  split at h
  · rename_i ho
    simp only [opOk, Bool.and_eq_true] at ho
    exact ho.1
  · cases h
theorem ExT.kind {es : List Ex} {S : List Sp} (h : ExT es S) {i : Nat} {e : Ex} (he : es[i]? = some e) : (e.kind = 0 ∧ gVal e.val = true) ∨ (e.kind = 1 ∧ gSym e.var.data.toList = true) ∨ (e.kind = 2 ∧ isAr e.op = true ∧ ∃ a b : Nat, e.a = (a : Int) ∧ e.b = (b : Int) ∧ a < i ∧ b < i) := by
  have hi : i < S.length := by rw [h.2.2.1]; exact (List.getElem?_eq_some_iff.1 he).1
  obtain ⟨s, hs⟩ : ∃ s, S[i]? = some s := ⟨S[i], by simp [hi]⟩
  by_cases hk : e.kind = 2
  · obtain ⟨a, b, sa, sb, ha, hb, h1, h2, _⟩ := h.2.1.op hs he hk
    exact .inr (.inr ⟨hk, spanT_op (h.2.1.2 i s e hs he) hk, a, b, ha, hb, by omega, by omega⟩)
  · rcases spanT_leaf (h.2.1.2 i s e hs he) hk with h | h
    · exact .inl h
    · exact .inr (.inl h)
theorem kOk_num {k : Int} (h : kOk k = true) : numOk k := by
  simp only [kOk, Bool.and_eq_true, decide_eq_true_eq] at h
  exact ⟨by omega, by omega⟩
theorem gCls_sz {s : ByteArray} (h : gCls s = true) : s.size ≤ 20 := by
  simp only [gCls, Bool.and_eq_true] at h
  exact gSym_sz h.1
theorem AcT.cases {es : List Ex} {a : Ac} (h : AcT es a) : (a.kind = 1 ∧ a.cls.size ≤ 20) ∨ (a.kind = 2 ∧ numOk a.k ∧ a.args = []) ∨ (a.kind = 3 ∧ numOk a.k) ∨ (a.kind = 4 ∧ a.args = []) := by
  have hf := h.1
  unfold fieldsOk at hf
  by_cases k1 : a.kind = 1
  · simp [k1] at hf
    exact .inl ⟨k1, gCls_sz hf.1⟩
  by_cases k2 : a.kind = 2
  · simp [k2] at hf
    exact .inr (.inl ⟨k2, kOk_num hf.1.2, hf.2⟩)
  by_cases k3 : a.kind = 3
  · simp [k3] at hf
    exact .inr (.inr (.inl ⟨k3, kOk_num hf.2⟩))
  by_cases k4 : a.kind = 4
  · simp [k4] at hf
    exact .inr (.inr (.inr ⟨k4, hf.2.2⟩))
  · simp [k1, k2, k3, k4] at hf
end Go.Proofs.YtdhpoagjmiligaaGreatDoor

namespace Go.Proofs.YtdhpoagjmiligaaGreatDoor
open Go.RowKit
attribute [local go_sem ↓] Go.wp_at_zero Go.wp_at_succ

/-- Six texts of tests at an address. -/
def TestsAt (w : World) (g o : Nat) : Prop := ∀ k, k < 6 → w.cell? ⟨g, o + k, none⟩ = some (.string (mkS (opTx.getD k [])))
theorem TestsAt.below {w w' : World} {g o : Nat} (h : TestsAt w g o) (hb : Below w.heap.size w w') : TestsAt w' g o := fun k hk => cell_below hb (h k hk)

set_option maxHeartbeats 800000 in
theorem l2Tests_txt (w : World) : Calls Tryz.prog 69 #[] w fun e w' => e = .returned (.slice (some ⟨w.heap.size, 0, none⟩) 6 6) ∧ TestsAt w' w.heap.size 0 ∧ Below w.heap.size w w' := by
  have hA : ∀ o, Below w.heap.size w (w.alloc o) := fun o => (Below.refl _ _).alloc (Nat.le_refl _) _
  go_enter Tryz.func69, Tryz.ntmps69
  go_wp2
  go_ret
  refine ⟨rfl, ?_, hA _⟩
  intro k hk
  rcases (show k = 0 ∨ k = 1 ∨ k = 2 ∨ k = 3 ∨ k = 4 ∨ k = 5 by omega) with rfl | rfl | rfl | rfl | rfl | rfl <;> simp [go_sem] <;> rfl

end Go.Proofs.YtdhpoagjmiligaaGreatDoor

namespace Go.Proofs.YtdhpoagjmiligaaGreatDoor
open Go.RowKit
attribute [local go_sem ↓] Go.wp_at_zero Go.wp_at_succ

/-- Strings that lie in memory. -/
def strR (_ : World) (r : List Value) (x : ByteArray) : Prop := r = [.string x]
theorem strR_any {w w' : World} {r : List Value} {x : ByteArray} (h : strR w r x) : strR w' r x := h
abbrev StrsAt (q : Option Nat) (w : World) (a : Option Addr) (xs : List ByteArray) : Prop := RowsAt strR q 9 1 w a xs
theorem StrsAt.below {q : Option Nat} {w w' : World} {a : Option Addr} {xs : List ByteArray} (h : StrsAt q w a xs) (hb : Below w.heap.size w w') : StrsAt q w' a xs := RowsAt.below h (fun _ _ _ h => strR_any h) hb
theorem StrsAt.get {q : Option Nat} {w : World} {a : Option Addr} {xs : List ByteArray} {i : Nat} {x : ByteArray} (h : StrsAt q w a xs) (hi : xs[i]? = some x) : ∃ b o, a = some ⟨b, o, none⟩ ∧ Qb q w 9 b ∧ w.cell? ⟨b, o + i, none⟩ = some (.string x) := by
  obtain ⟨b, o, r, h1, h2, h3, h4, h5⟩ := h i x hi
  unfold strR at h5
  subst h5
  exact ⟨b, o, h1, h2, by simpa using h4 0 _ rfl⟩

set_option maxHeartbeats 800000 in
theorem l2Is_any (s : ByteArray) (a : Option Addr) (c : Nat) (xs : List ByteArray) (w : World) {q : Option Nat} (hv : StrsAt q w a xs) (hl : xs.length ≤ 1048576) :
    Calls Tryz.prog 68 #[.string s, .slice a xs.length c] w fun e w' => e = .returned (.bool (memB s xs)) ∧ w' = w := by
  go_enter Tryz.func68, Tryz.ntmps68
  go_wp2
  go_loopw [9] (fun i wr => ∃ (k : Nat), k ≤ xs.length ∧ i = .int .i64 k ∧ memB s xs = memB s (xs.drop k) ∧ wr = w) (fun i _ => xs.length - (intOf i).toNat)
  case atStart => exact ⟨0, by omega, rfl, rfl, rfl⟩
  case round =>
    obtain ⟨k, hk, rfl, hG, hb⟩ := hrel
    subst hb
    have HG : Hid (memB s xs = memB s (xs.drop k)) := hG
    clear hG
    by_cases hkl : k < xs.length
    · obtain ⟨x, hxk⟩ : ∃ x, xs[k]? = some x := ⟨xs[k], by simp [hkl]⟩
      obtain ⟨b, o, rfl, hq, c0⟩ := hv.get hxk
      have HD : Hid (xs.drop k = x :: xs.drop (k + 1)) := drop_cons hxk
      cases e1 : (s.toList == x.toList)
      all_goals go_wp2
      · go_roundw
        case rel =>
          refine ⟨k + 1, by omega, by go_num, ?_, (by first | rfl | trivial)⟩
          rw [bytes_beq] at e1
          have : x ≠ s := fun h => by subst h; simp at e1
          rw [HG.out, HD.out]
          simp [memB, this]
        case measure => simp [intOf]; omega
      · go_ret
        rw [bytes_beq] at e1
        have e2 : s = x := by simpa using e1
        exact ⟨ret_bool (by rw [HG.out, HD.out]; simp [memB, e2]), rfl⟩
    · go_wp2
      go_ret
      exact ⟨ret_bool (by rw [HG.out, List.drop_eq_nil_of_le (by omega)]; rfl), rfl⟩

end Go.Proofs.YtdhpoagjmiligaaGreatDoor

namespace Go.Proofs.YtdhpoagjmiligaaGreatDoor
open Go.RowKit
attribute [local go_sem ↓] Go.wp_at_zero Go.wp_at_succ

end Go.Proofs.YtdhpoagjmiligaaGreatDoor

namespace Go.Proofs.YtdhpoagjmiligaaGreatDoor
open Go.RowKit
attribute [local go_sem ↓] Go.wp_at_zero Go.wp_at_succ

set_option maxHeartbeats 400000 in
theorem l2Ariths_any (w : World) : Calls Tryz.prog 70 #[] w fun e w' => e = .returned (.slice (some ⟨w.heap.size, 0, none⟩) 5 5) ∧ w' = w.alloc (.cells #[.string ⟨#[43]⟩, .string ⟨#[45]⟩, .string ⟨#[42]⟩, .string ⟨#[47]⟩, .string ⟨#[37]⟩] 9) := by
  go_enter Tryz.func70, Tryz.ntmps70
  go_wp2
  go_ret
  exact ⟨rfl, rfl⟩
end Go.Proofs.YtdhpoagjmiligaaGreatDoor

namespace Go.Proofs.YtdhpoagjmiligaaGreatDoor
open Go.RowKit
attribute [local go_sem ↓] Go.wp_at_zero Go.wp_at_succ

end Go.Proofs.YtdhpoagjmiligaaGreatDoor

namespace Go.Proofs.YtdhpoagjmiligaaGreatDoor
open Go.RowKit Go.Lib
attribute [local go_sem ↓] Go.wp_at_zero Go.wp_at_succ

set_option maxHeartbeats 800000 in
set_option maxRecDepth 100000 in
theorem slIndexByte_any (s : ByteArray) (c : Int) (w : World) :
    Calls Tryz.prog 141 #[.string s, .int .u8 c] w fun e w' => e = .returned (.int .i64 (Lib.indexByte s.data.toList c.toNat.toUInt8)) ∧ w' = w := by
  go_enter Tryz.func141, Tryz.ntmps141
  go_wp2
  rw [run_callFunc_extern Tryz.func147 (by kernel_rfl) (by kernel_rfl) (by kernel_rfl) (e := Extern.BytealgIndexByte.indexByte) (by kernel_rfl), Lib.run_indexByteString]
  simp only [Result.andThen]
  rw [Oper.upon_value]
  go_wp2
  go_ret
  exact ⟨rfl, rfl⟩

set_option maxHeartbeats 800000 in
theorem indexByte_any (s : ByteArray) (c : Int) (w : World) :
    Calls Tryz.prog 135 #[.string s, .int .u8 c] w fun e w' => e = .returned (.int .i64 (Lib.indexByte s.data.toList c.toNat.toUInt8)) ∧ w' = w := by
  go_enter Tryz.func135, Tryz.ntmps135
  go_wp2_with (go_at_call 141; refine (slIndexByte_any s c _).mono ?_; rintro e w' ⟨rfl, rfl⟩)
  go_ret
  exact ⟨rfl, rfl⟩

theorem isAr_index {c : Int} (h0 : 0 ≤ c) (h1 : c < 256) : decide (0 ≤ Lib.indexByte [43, 45, 42, 47, 37] c.toNat.toUInt8) = isAr c := by
  have key : ∀ n : Fin 256, decide (0 ≤ Lib.indexByte [43, 45, 42, 47, 37] ((n.val : Nat) : Int).toNat.toUInt8) = isAr ((n.val : Nat) : Int) := by decide +kernel
  obtain ⟨n, rfl⟩ := Int.eq_ofNat_of_zero_le h0
  exact key ⟨n, by omega⟩

set_option maxHeartbeats 800000 in
theorem isArith_any (c : Int) (h0 : 0 ≤ c) (h1 : c < 256) (w : World) :
    Calls Tryz.prog 127 #[.int .u8 c] w fun e w' => e = .returned (.bool (isAr c)) ∧ w' = w := by
  have H := isAr_index h0 h1
  have HH : Hid (decide (0 ≤ Lib.indexByte [43, 45, 42, 47, 37] c.toNat.toUInt8) = isAr c) := H
  clear H
  go_enter Tryz.func127, Tryz.ntmps127
  go_wp2_with (go_at_call 135; refine (indexByte_any _ c _).mono ?_; rintro e w' ⟨rfl, rfl⟩)
  go_ret
  exact ⟨ret_bool (by rw [← HH.out]), rfl⟩

/-- Spans that lie in memory. -/
def spR (_ : World) (r : List Value) (s : Sp) : Prop := r = [.int .i64 (s.1 : Int), .int .i64 (s.2 : Int)]
theorem spR_any {w w' : World} {r : List Value} {x : Sp} (h : spR w r x) : spR w' r x := h
abbrev SpsAt (q : Option Nat) (w : World) (a : Option Addr) (xs : List Sp) : Prop := RowsAt spR q 239 2 w a xs
theorem SpsAt.below {q : Option Nat} {w w' : World} {a : Option Addr} {xs : List Sp} (h : SpsAt q w a xs) (hb : Below w.heap.size w w') : SpsAt q w' a xs := RowsAt.below h (fun _ _ _ h => spR_any h) hb
end Go.Proofs.YtdhpoagjmiligaaGreatDoor

namespace Go.Proofs.YtdhpoagjmiligaaGreatDoor
open Go.RowKit
attribute [local go_sem ↓] Go.wp_at_zero Go.wp_at_succ

theorem hidN {p : Prop} (h : p) : Hid p := h
def mkIs (k : Int) (n : Nat) : List Int := (List.range n).map fun (j : Nat) => k + (j : Int)
theorem mkIs_len (k : Int) (n : Nat) : (mkIs k n).length = n := by simp [mkIs]
theorem mkIs_succ (k : Int) (n : Nat) : mkIs k (n + 1) = mkIs k n ++ [k + (n : Int)] := by simp [mkIs, List.range_succ]
theorem mkIs_at (k : Int) (n i : Nat) (h : i < n) : (mkIs k n)[i]? = some (k + (i : Int)) := by simp [mkIs, h]

set_option maxHeartbeats 800000 in
theorem markIntS_own (a : Option Addr) (c : Nat) (xs : List Int) (base : Nat) (k0 : Int) (w : World) (ho : w.ownsRow base 3 1 (.slice a xs.length c) xs.length (icells xs)) (hl : xs.length ≤ 1048576) (hk : 0 < k0) (hk' : k0 + (xs.length : Int) ≤ 100000000) :
    Calls Tryz.prog 93 #[.slice a xs.length c, .int .i64 k0] w fun e w' =>
      e = .returned (.int .i64 (k0 + (xs.length : Int))) ∧ w'.ownsRow base 3 1 (.slice a xs.length c) xs.length (icells (mkIs k0 xs.length)) ∧ MkO (Value.slice a xs.length c).ownBlock w w' := by
  go_enter Tryz.func93, Tryz.ntmps93
  go_wp2
  go_loopw [1, 5] (fun kv i wr => ∃ (j : Nat), j ≤ xs.length ∧ i = .int .i64 j ∧ kv = .int .i64 (k0 + (j : Int)) ∧ wr.ownsRow base 3 1 (.slice a xs.length c) xs.length (icells (mkIs k0 j ++ xs.drop j)) ∧ MkO (Value.slice a xs.length c).ownBlock w wr) (fun _ i _ => xs.length - (intOf i).toNat)
  case atStart => exact ⟨0, by omega, rfl, by simp, by simpa [mkIs] using ho, MkO.refl _ _⟩
  case round =>
    obtain ⟨j, hj, rfl, rfl, ho1, hm⟩ := hrel
    have HO := hidN ho1
    have HM := hidN hm
    clear ho1 hm ho
    by_cases hjl : j < xs.length
    · obtain ⟨v, hvj⟩ : ∃ v, xs[j]? = some v := ⟨xs[j], by simp [hjl]⟩
      have hd : xs.drop j = v :: xs.drop (j + 1) := drop_cons hvj
      have hcells : icells (mkIs k0 j ++ xs.drop j) = icells (mkIs k0 j) ++ ([Value.int .i64 v] ++ icells (xs.drop (j + 1))) := by
        rw [hd]
        simp [icells]
      have hAl : (icells (mkIs k0 j)).length = j := by simp [icells, mkIs_len]
      have ho2 := HO.out
      rw [hcells] at ho2
      obtain ⟨g, rfl, hbg, c0, f0⟩ := owns_cell (j := j) (x := .int .i64 v) ho2 (by rw [List.getElem?_append_right (by omega), hAl]; simp)
      have hw1 : IntKind.i64.wrap (k0 + (j : Int) + 1) = k0 + ((j : Int) + 1) := by rw [IntKind.wrap_i64]; omega
      have H2 := hidN ho2
      clear ho2 hcells hd
      go_wp2
      have s3 := (H2.out.stored j (.int .i64 (k0 + (j : Int)))).1
      have hset : (icells (mkIs k0 j) ++ ([Value.int .i64 v] ++ icells (xs.drop (j + 1)))).set j (Value.int .i64 (k0 + (j : Int))) = icells (mkIs k0 (j + 1) ++ xs.drop (j + 1)) := by
        rw [List.set_append_right _ _ (by omega), hAl, mkIs_succ]
        simp [icells]
      rw [hset] at s3
      have m2 := HM.out.trans (MkO.set (w := wr) (g := g) (o := j) (.int .i64 (k0 + (j : Int))))
      have hcast : ((j + 1 : Nat) : Int) = (j : Int) + 1 := by omega
      go_roundw
      case rel => exact ⟨j + 1, by omega, by go_num, by rw [hcast], s3, m2⟩
      case measure => simp [intOf]; omega
    · go_wp2
      go_ret
      obtain rfl : j = xs.length := by omega
      have := HO.out
      rw [List.drop_eq_nil_of_le (Nat.le_refl _), List.append_nil] at this
      exact ⟨rfl, this, HM.out⟩

set_option maxHeartbeats 800000 in
theorem heldIntS_any (a : Option Addr) (c n : Nat) (k0 : Int) (w : World) {q : Option Nat} (hv : IntsAt q w a (mkIs k0 n)) (hl : n ≤ 1048576) (hk : 0 < k0) (hk' : k0 + (n : Int) ≤ 100000000) :
    Calls Tryz.prog 95 #[.slice a n c, .int .i64 k0] w fun e w' =>
      e = .returned (.int .i64 (k0 + (n : Int))) ∧ Below w.heap.size w w' := by
  go_enter Tryz.func95, Tryz.ntmps95
  go_wp2
  go_loopw [1, 5] (fun kv i wr => ∃ (j : Nat), j ≤ n ∧ i = .int .i64 j ∧ kv = .int .i64 (k0 + (j : Int)) ∧ Below w.heap.size w wr) (fun _ i _ => n - (intOf i).toNat)
  case atStart => exact ⟨0, by omega, rfl, by simp, Below.refl _ _⟩
  case round =>
    obtain ⟨j, hj, rfl, rfl, hb⟩ := hrel
    by_cases hjl : j < n
    · obtain ⟨b, o, ea, _, d0⟩ := (hv.below hb).get (mkIs_at k0 n j hjl)
      subst ea
      have hw1 : IntKind.i64.wrap (k0 + (j : Int) + 1) = k0 + ((j : Int) + 1) := by rw [IntKind.wrap_i64]; omega
      have hcast : ((j + 1 : Nat) : Int) = (j : Int) + 1 := by omega
      go_wp2
      go_roundw
      case rel => exact ⟨j + 1, by omega, by go_num, by rw [hcast], hb⟩
      case measure => simp [intOf]; omega
    · go_wp2
      go_ret
      obtain rfl : j = n := by omega
      exact ⟨rfl, hb⟩
end Go.Proofs.YtdhpoagjmiligaaGreatDoor
