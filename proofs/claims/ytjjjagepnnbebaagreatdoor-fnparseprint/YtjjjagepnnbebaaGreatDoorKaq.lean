/-
  OUR OWN TEXT. Tx1, Tx3, Mo0, Tx12, Fd1, Fw1, Fd2, Fd3, Ms1, Tx2, Tx4, Sx1, Sx2, one behind the other.
-/
import Derived.Test.YtjjjagepnnbebaaGreatDoorChkm
import Derived.Lib.Join
import Derived.Lib.ItoaLen
import Derived.Test.YtjjjagepnnbebaaGreatDoorAppm
import Derived.Test.YtjjjagepnnbebaaGreatDoorKam
import Derived.Lib.ItoaMem
import Derived.Laws.BytesArg
import Derived.Test.YtjjjagepnnbebaaGreatDoorKan
import Derived.Test.YtjjjagepnnbebaaGreatDoorSp10m
import Derived.Deep.RegionHeld3
import Derived.Laws.Strings
import Derived.Test.YtjjjagepnnbebaaGreatDoorHwm
import Derived.Lib.ParseIntB
import Derived.Deep.DeepCutAuto
namespace Go.Proofs.YtjjjagepnnbebaaGreatDoor

abbrev Bs := List UInt8
def bsOf (s : ByteArray) : Bs := s.data.toList
def mkS (l : Bs) : ByteArray := ⟨l.toArray⟩
theorem bs_mkS (l : Bs) : bsOf (mkS l) = l := rfl
theorem mkS_bs (s : ByteArray) : mkS (bsOf s) = s := by
  cases s
  simp [mkS, bsOf]
theorem mkS_app (a b : Bs) : mkS a ++ mkS b = mkS (a ++ b) := by
  apply ByteArray.ext
  simp [mkS, ByteArray.data_append]
theorem mkS_app' (s : ByteArray) (b : Bs) : mkS b ++ s = mkS (b ++ bsOf s) := by rw [← mkS_app, mkS_bs]
theorem mkS_size (l : Bs) : (mkS l).size = l.length := by simp [mkS, ByteArray.size]
theorem bs_length (s : ByteArray) : (bsOf s).length = s.size := Array.length_toList
def txV (v : V) : Bs := if v.kind = 1 then bsOf v.sym else Lib.itoa v.num
def opTx : List Bs := [[61], [33, 61], [60], [62], [60, 61], [62, 61]]
def txO (t : Tm) : Bs := if isE t.var then txV t.val else 63 :: bsOf t.var
def txT (t : Tm) : Bs :=
  if t.kind = 1 then txV t.val
  else if t.kind = 2 then 63 :: bsOf t.var
  else if t.kind = 3 then 40 :: (opTx.getD (t.op.toNat - 1) [] ++ 32 :: (txO t ++ [41]))
  else [95]
def txE : Nat → List Ex → Nat → Bs
  | 0, _, _ => []
  | n + 1, es, i => match es[i]? with
    | none => []
    | some e =>
      if e.kind = 1 then 63 :: bsOf e.var
      else if e.kind = 2 then 40 :: UInt8.ofNat e.op.toNat :: 32 :: (txE n es e.a.toNat ++ 32 :: (txE n es e.b.toNat ++ [41]))
      else txV e.val
def txArgs (es : List Ex) (l : List Int) : Bs := l.flatMap fun x => 32 :: txE 60 es x.toNat
def addB : Bs := [97, 100, 100]
def dropB : Bs := [100, 114, 111, 112]
def modB : Bs := [109, 111, 100]
def haltB : Bs := [104, 97, 108, 116]
def ruleB : Bs := [40, 114, 117, 108, 101, 32]
def notX : Bs := [110, 111, 116]
def lineB : Bs := [10, 32, 32]
def thenB : Bs := [61, 62]
def txHead (a : Ac) : Bs :=
  if a.kind = 1 then addB ++ 32 :: bsOf a.cls
  else if a.kind = 2 then dropB ++ 32 :: Lib.itoa a.k
  else if a.kind = 3 then modB ++ 32 :: Lib.itoa a.k
  else haltB
def txA (es : List Ex) (a : Ac) : Bs := 40 :: (txHead a ++ (txArgs es a.args ++ [41]))
def txTs (l : List Tm) : Bs := l.flatMap fun t => 32 :: txT t
def txP (p : Pt) : Bs := 40 :: ((if p.neg then notX ++ [32] else []) ++ (bsOf p.cls ++ (txTs p.terms ++ [41])))
def txPs (l : List Pt) : Bs := l.flatMap fun p => lineB ++ txP p
def txAs (es : List Ex) (l : List Ac) : Bs := l.flatMap fun a => lineB ++ txA es a
def txHd (r : Ru) : Bs := ruleB ++ (bsOf r.name ++ 32 :: Lib.itoa r.sal)
def txR (r : Ru) : Bs := txHd r ++ (txPs r.pats ++ (lineB ++ (thenB ++ (txAs r.exprs r.acts ++ [41, 10]))))
def txRs (l : List Ru) : Bs := l.flatMap txR
def prnt (l : List Ru) : Bs := if (chk l).1 = 0 then txRs l else []

theorem joinTail_eq (sep : Bs) (r : List Bs) : Lib.joinTail sep r = r.flatMap (fun x => sep ++ x) := by
  unfold Lib.joinTail
  rw [List.flatMap_def]
theorem join_args (x y : Bs) (es : List Ex) (l : List Int) : Lib.join (x :: y :: l.map fun i => txE 60 es i.toNat) [32] = x ++ 32 :: (y ++ txArgs es l) := by
  rw [Lib.join_cons, joinTail_eq]
  simp [txArgs, List.flatMap_map]
theorem join_two (x y : Bs) : Lib.join [x, y] [32] = x ++ 32 :: y := by
  rw [Lib.join_cons, joinTail_eq]
  simp
theorem join_three (x y z : Bs) : Lib.join [x, y, z] [32] = x ++ 32 :: (y ++ 32 :: z) := by
  rw [Lib.join_cons, joinTail_eq]
  simp
theorem join_terms (x : Bs) (l : List Tm) : Lib.join (x :: l.map txT) [32] = x ++ txTs l := by
  rw [Lib.join_cons, joinTail_eq]
  simp [txTs, List.flatMap_map]
theorem join_terms2 (x y : Bs) (l : List Tm) : Lib.join (x :: y :: l.map txT) [32] = x ++ 32 :: (y ++ txTs l) := by
  rw [Lib.join_cons, joinTail_eq]
  simp [txTs, List.flatMap_map]
theorem join_lines (h : Bs) (ps : List Pt) (es : List Ex) (acs : List Ac) : Lib.join (h :: (ps.map txP ++ thenB :: acs.map (txA es))) lineB = h ++ (txPs ps ++ (lineB ++ (thenB ++ txAs es acs))) := by
  rw [Lib.join_cons, joinTail_eq]
  simp [txPs, txAs, List.flatMap_map]

theorem txE_one (n : Nat) (es : List Ex) (i : Nat) (e : Ex) (h : es[i]? = some e) : txE (n + 1) es i = if e.kind = 1 then 63 :: bsOf e.var else if e.kind = 2 then 40 :: UInt8.ofNat e.op.toNat :: 32 :: (txE n es e.a.toNat ++ 32 :: (txE n es e.b.toNat ++ [41])) else txV e.val := by
  rw [txE, h]

def numOk (n : Int) : Prop := -9223372036854775808 ≤ n ∧ n ≤ 9223372036854775807
theorem gSym_le {l : Bs} (h : gSym l = true) : l.length ≤ 20 := by
  unfold gSym at h
  simp only [Bool.and_eq_true, decide_eq_true_eq] at h
  omega
theorem gSym_sz {s : ByteArray} (h : gSym s.data.toList = true) : s.size ≤ 20 := by
  have := gSym_le h
  rw [← bs_length]
  exact this
theorem txV_le {v : V} (h : gVal v = true) (hn : numOk v.num) : (txV v).length ≤ 21 := by
  unfold txV
  split
  · rename_i hk
    have hv : gVal v = ((v.kind == 0 && v.sym.toList.isEmpty) || (v.kind == 1 && (v.num == 0 && gSym v.sym.data.toList))) := rfl
    rw [hv, hk] at h
    simp at h
    have := gSym_le h.2
    have e : bsOf v.sym = v.sym.data.toList := rfl
    rw [e]
    omega
  · exact Lib.itoa_length_le _ hn.1 hn.2
theorem txO_le {t : Tm} (h : operandOk t = true) (hn : numOk t.val.num) : (txO t).length ≤ 21 := by
  unfold txO
  unfold operandOk at h
  cases hv : isE t.var
  · rw [hv] at h
    simp at h
    have := gSym_sz h.1
    simp [bs_length]
    omega
  · rw [hv] at h
    have hb : gVal t.val = true := by
      cases hg : gVal t.val
      · rw [hg] at h
        simp at h
        have h1 : t.var.toList.isEmpty = true := hv
        have h2 : t.var.data.toList.length = 0 := by
          have h3 : t.var.data.toList = t.var.toList := (ByteArray.toList_eq _).symm
          rw [h3]
          simpa using h1
        have h4 := h.1
        unfold gSym at h4
        simp [h2] at h4
      · rfl
    simpa using txV_le hb hn
theorem opTx_le (k : Nat) : (opTx.getD k []).length ≤ 2 := by
  rcases k with _ | _ | _ | _ | _ | _ | k <;> simp [opTx]
theorem txT_le {t : Tm} (h : gTm t = true) (hn : numOk t.val.num) : (txT t).length ≤ 30 := by
  unfold gTm at h
  unfold txT
  by_cases k1 : t.kind = 1
  · simp [k1] at h
    simp [k1]
    have := txV_le h.2.2 hn
    omega
  by_cases k2 : t.kind = 2
  · simp [k2] at h
    simp [k2]
    have := gSym_sz h.2.1
    simp [bs_length]
    omega
  by_cases k3 : t.kind = 3
  · simp [k3] at h
    simp [k3]
    have := txO_le h.2.2 hn
    have := opTx_le (t.op.toNat - 1)
    simp at this
    omega
  · simp [k1, k2, k3]
end Go.Proofs.YtjjjagepnnbebaaGreatDoor

namespace Go.Proofs.YtjjjagepnnbebaaGreatDoor
open Go.RowKit
attribute [local go_sem ↓] Go.wp_at_zero Go.wp_at_succ

theorem hidX {p : Prop} (h : p) : Hid p := h
theorem ret_txt {a b : Bs} (h : a = b) : Ending.returned (.string (mkS a)) = .returned (.string (mkS b)) := by rw [h]
end Go.Proofs.YtjjjagepnnbebaaGreatDoor

namespace Go.Proofs.YtjjjagepnnbebaaGreatDoor
open Go.RowKit

/-- w' is w but for block b and new ones. -/
structure MkO (b : Option Nat) (w w' : World) : Prop where
  rest : Below 0 w w'
  block : ∀ g, g < w.heap.size → b ≠ some g → w'.heap[g]? = w.heap[g]?
theorem MkO.refl (b : Option Nat) (w : World) : MkO b w w := ⟨Below.refl _ _, fun _ _ _ => rfl⟩
theorem MkO.trans {b : Option Nat} {u v w : World} (h : MkO b u v) (k : MkO b v w) : MkO b u w :=
  ⟨h.rest.trans k.rest, fun g hg hs => (k.block g (Nat.lt_of_lt_of_le hg h.rest.size) hs).trans (h.block g hg hs)⟩
theorem MkO.of_below {b : Option Nat} {u v : World} (h : Below u.heap.size u v) : MkO b u v := ⟨h.mono (Nat.zero_le _), fun g hg _ => h.block g hg⟩
theorem MkO.set {w : World} {g o : Nat} (x : Value) : MkO (some g) w (w.setCell ⟨g, o, none⟩ x) :=
  ⟨(Below.refl _ _).setCell (Nat.zero_le _) _, fun h _ hs => Below.heap_setCell _ _ _ _ (fun e => hs (by rw [e]))⟩
theorem MkO.below {b : Option Nat} {w w' : World} {B : Nat} (h : MkO b w w') (hB : B ≤ w.heap.size) (hs : ∀ g, b = some g → B ≤ g) : Below B w w' :=
  ⟨h.rest.os, h.rest.tape, h.rest.output, h.rest.size, fun k hk => h.block k (by omega) (fun e => by have := hs k e; omega)⟩
end Go.Proofs.YtjjjagepnnbebaaGreatDoor

namespace Go.Proofs.YtjjjagepnnbebaaGreatDoor
open Go.RowKit
attribute [local go_sem ↓] Go.wp_at_zero Go.wp_at_succ

/-- Bytes that lie in memory. -/
def BysAt (w : World) (a : Option Addr) (l : Bs) : Prop := ∀ (j : Nat) x, l[j]? = some x → ∃ b o, a = some ⟨b, o, none⟩ ∧ b < w.heap.size ∧ w.cell? ⟨b, o + j, none⟩ = some (.int .u8 (x.toNat : Int))
theorem BysAt.below {w w' : World} {a : Option Addr} {l : Bs} (h : BysAt w a l) (hb : Below w.heap.size w w') : BysAt w' a l := fun j x hx => by
  obtain ⟨b, o, e, hl, hc⟩ := h j x hx
  exact ⟨b, o, e, Nat.lt_of_lt_of_le hl hb.size, cell_below hb hc⟩
def byV (l : Bs) : List Value := l.map fun x => Value.int .u8 (x.toNat : Int)
theorem byV_len (l : Bs) : (byV l).length = l.length := List.length_map _
theorem BysAt.owns {w : World} {base n : Nat} {a : Option Addr} {c : Nat} {l : Bs} (h : w.ownsRow base 5 1 (.slice a n c) n (byV l)) : BysAt w a l := fun j x hx => by
  obtain ⟨g, hg, _, hc, _⟩ := owns_cell h (j := j) (x := .int .u8 (x.toNat : Int)) (by simp [byV, hx])
  exact ⟨g, 0, hg, World.block_lt_of_cell? _ _ hc, by rw [Nat.zero_add]; exact hc⟩

end Go.Proofs.YtjjjagepnnbebaaGreatDoor

namespace Go.Proofs.YtjjjagepnnbebaaGreatDoor

/-- The number that the next byte is; past the end nought. -/
def nxc (l : Bs) : Nat := (l.headD 0).toNat
def wS (l : Bs) : ByteArray := ⟨l.toArray⟩
/-- A class, a name, a word, a great number, by its number. -/
def clsF (c : Nat) : ByteArray := if c % 3 = 0 then wS [97] else if c % 3 = 1 then wS [98] else wS [103, 111, 97, 108]
def namF (c : Nat) : ByteArray := if c % 3 = 0 then wS [120] else if c % 3 = 1 then wS [121] else wS [122]
def symF (k : Nat) : ByteArray := if k = 0 then wS [120] else if k = 1 then wS [121] else wS [114, 101, 100]
def bigF (k : Nat) : Int := if k = 0 then 9223372036854775807 else if k = 1 then -9223372036854775808 else if k = 2 then -1 else 1000000000000
def valF (c : Nat) : V := if c % 3 = 0 then (1, 0, symF (c / 3 % 3)) else if 250 ≤ c then (0, bigF (c % 4), wS []) else (0, ((c / 3 % 5 : Nat) : Int) - 1, wS [])
def zvF : V := (0, 0, wS [])
/-- A term, and what is left behind it; K: the variables that are known. -/
def termF (K : List ByteArray) (l : Bs) : Tm × Bs :=
  if nxc l % 8 = 0 then (⟨0, 0, wS [], zvF⟩, l.tail)
  else if nxc l % 8 = 1 ∨ nxc l % 8 = 2 then (⟨1, 0, wS [], valF (nxc l.tail)⟩, l.tail.tail)
  else if nxc l % 8 = 3 then
    (if 0 < K.length ∧ 100 ≤ nxc l then (⟨3, 1 + ((nxc l / 8 % 6 : Nat) : Int), K.getD (nxc l.tail % K.length) (wS []), zvF⟩, l.tail.tail)
     else (⟨3, 1 + ((nxc l / 8 % 6 : Nat) : Int), wS [], valF (nxc l.tail)⟩, l.tail.tail))
  else (⟨2, 0, namF (nxc l / 8), zvF⟩, l.tail)
def arF (k : Nat) : Int := if k = 0 then 43 else if k = 1 then 45 else if k = 2 then 42 else if k = 3 then 47 else 37
/-- An expr behind others. -/
def exprF : Nat → List ByteArray → List Ex → Bs → List Ex × Bs
  | 0, K, es, l => if nxc l % 5 = 0 ∧ 0 < K.length then (es ++ [⟨1, 0, K.getD (nxc l / 5 % K.length) (wS []), zvF, 0, 0⟩], l.tail) else (es ++ [⟨0, 0, wS [], valF (nxc l.tail), 0, 0⟩], l.tail.tail)
  | d + 1, K, es, l =>
    if 2 < nxc l % 5 ∧ es.length < 52 then
      let p := exprF d K es l.tail
      let q := exprF d K p.1 p.2
      (q.1 ++ [⟨2, arF (nxc l / 5 % 5), wS [], zvF, (p.1.length : Int) - 1, (q.1.length : Int) - 1⟩], q.2)
    else if nxc l % 5 = 0 ∧ 0 < K.length then (es ++ [⟨1, 0, K.getD (nxc l / 5 % K.length) (wS []), zvF, 0, 0⟩], l.tail) else (es ++ [⟨0, 0, wS [], valF (nxc l.tail), 0, 0⟩], l.tail.tail)
/-- Some arguments: their numbers, the exprs behind them, the bytes left. -/
def argsF : Nat → List ByteArray → List Ex → Bs → List Int × List Ex × Bs
  | 0, _, es, l => ([], es, l)
  | n + 1, K, es, l =>
    let p := exprF 2 K es l
    let q := argsF n K p.1 p.2
    (((p.1.length : Int) - 1) :: q.1, q.2)
def argC (c : Nat) : Nat := if c % 6 = 0 then 1 else if c % 6 = 1 then 2 else if c % 6 = 2 then 1 else if c % 6 = 3 then 2 else if c % 6 = 4 then 3 else 0
def drArgs (K : List ByteArray) (es : List Ex) (l : Bs) : List Int × List Ex × Bs := argsF (argC (nxc l)) K es l.tail
/-- Some terms of a pattern: what is known within it grows. -/
def termsF : Nat → List ByteArray → Bs → List Tm × List ByteArray × Bs
  | 0, K, l => ([], K, l)
  | n + 1, K, l =>
    let p := termF K l
    let q := termsF n (if p.1.kind == 2 then K ++ [p.1.var] else K) p.2
    (p.1 :: q.1, q.2)
def patC (c : Nat) : Nat := if c / 12 % 6 = 0 then 1 else if c / 12 % 6 = 1 then 2 else if c / 12 % 6 = 2 then 2 else if c / 12 % 6 = 3 then 1 else if c / 12 % 6 = 4 then 0 else 3
/-- A pattern behind 'm' others, 'pos' of them positive. -/
def patF (K : List ByteArray) (pos m : Nat) (l : Bs) : Pt × List ByteArray × Bs :=
  let q := termsF (patC (nxc l)) K l.tail
  let neg := if m = 5 ∧ pos = 0 then false else (nxc l % 4 == 3 || pos == 3)
  (⟨neg, clsF (nxc l), q.1⟩, if neg then K else q.2.1, q.2.2)
/-- All patterns of a rule: n0 are wanted at least; f: how many may come. -/
def patsF : Nat → Nat → List ByteArray → Nat → Nat → Bs → List Pt × List ByteArray × Nat × Bs
  | 0, _, K, pos, _, l => ([], K, pos, l)
  | f + 1, n0, K, pos, m, l =>
    if m < n0 ∨ pos = 0 then
      let p := patF K pos m l
      let q := patsF f n0 p.2.1 (if p.1.neg then pos else pos + 1) (m + 1) p.2.2
      (p.1 :: q.1, q.2)
    else ([], K, pos, l)
/-- An action. -/
def drActF (K : List ByteArray) (pos : Nat) (es : List Ex) (l : Bs) : Ac × List Ex × Bs :=
  if nxc l % 8 = 0 ∨ nxc l % 8 = 1 ∨ nxc l % 8 = 2 then
    let q := drArgs K es l.tail
    (⟨1, 0, clsF (nxc l / 8), q.1⟩, q.2)
  else if nxc l % 8 = 3 ∨ nxc l % 8 = 4 then (⟨2, 1 + ((nxc l / 8 % pos : Nat) : Int), wS [], []⟩, es, l.tail)
  else if nxc l % 8 = 5 ∨ nxc l % 8 = 6 then
    let q := drArgs K es l.tail
    (⟨3, 1 + ((nxc l / 8 % pos : Nat) : Int), wS [], q.1⟩, q.2)
  else (⟨4, 0, wS [], []⟩, es, l.tail)
def actsF : Nat → List ByteArray → Nat → List Ex → Bs → List Ac × List Ex × Bs
  | 0, _, _, es, l => ([], es, l)
  | n + 1, K, pos, es, l =>
    let p := drActF K pos es l
    let q := actsF n K pos p.2.1 p.2.2
    (p.1 :: q.1, q.2)
def salF (c : Nat) : Int := if c = 255 then -9223372036854775808 else ((c % 5 : Nat) : Int) - 2
/-- A rule named nm. -/
def ruleF (nm : ByteArray) (l : Bs) : Ru × Bs :=
  let p := patsF 7 (1 + nxc l / 5 % 4) [] 0 0 l.tail
  let q := actsF (1 + nxc p.2.2.2 % 3) p.2.1 p.2.2.1 [] p.2.2.2.tail
  (⟨nm, salF (nxc l), p.1, q.2.1, q.1⟩, q.2.2)
/-- n rules, the first of them behind k others. -/
def rulesF (nm : Nat → ByteArray) : Nat → Nat → Bs → List Ru × Bs
  | 0, _, l => ([], l)
  | n + 1, k, l =>
    let p := ruleF (nm k) l
    let q := rulesF nm n (k + 1) p.2
    (p.1 :: q.1, q.2)
def drRules (nm : Nat → ByteArray) (most : Nat) (l : Bs) : List Ru × Bs := rulesF nm (1 + nxc l % most) 0 l.tail
end Go.Proofs.YtjjjagepnnbebaaGreatDoor

namespace Go.Proofs.YtjjjagepnnbebaaGreatDoor
open Go.RowKit
attribute [local go_sem ↓] Go.wp_at_zero Go.wp_at_succ

theorem hidR {p : Prop} (h : p) : Hid p := h
/-- The reader in its box g: some bytes, and a place among them or behind them. -/
def Rdr (w : World) (g : Nat) (l : Bs) : Prop := ∃ (a : Option Addr) (B : Bs) (c i : Nat), w.heap[g]? = some (.cells #[.slice a B.length c, .int .i64 (i : Int)] 44 (0, 0)) ∧ i ≤ B.length ∧ B.length ≤ 1048576 ∧ l = B.drop i ∧
  ∀ j x, B[j]? = some x → ∃ (b o : Nat), a = some ⟨b, o, none⟩ ∧ b < g ∧ w.cell? ⟨b, o + j, none⟩ = some (.int .u8 (x.toNat : Int))
theorem Rdr.bel {w w' : World} {g : Nat} {l : Bs} (h : Rdr w g l) (hb : Below w.heap.size w w') : Rdr w' g l := by
  obtain ⟨a, n, c, i, h1, h2, h3, h5, h4⟩ := h
  refine ⟨a, n, c, i, (hb.block g (lt_of_block' h1)).trans h1, h2, h3, h5, fun j x hj => ?_⟩
  obtain ⟨b, o, e1, e2, e4⟩ := h4 j x hj
  exact ⟨b, o, e1, e2, cell_below hb e4⟩
theorem Rdr.lt {w : World} {g : Nat} {l : Bs} (h : Rdr w g l) : g < w.heap.size := by
  obtain ⟨a, n, c, i, h1, _⟩ := h
  exact lt_of_block' h1
theorem Rdr.old {w w' : World} {g : Nat} {l : Bs} (h : Rdr w g l) (hb : Below (g + 1) w w') : Rdr w' g l := by
  obtain ⟨a, n, c, i, h1, h2, h3, h5, h4⟩ := h
  refine ⟨a, n, c, i, (hb.block g (by omega)).trans h1, h2, h3, h5, fun j x hj => ?_⟩
  obtain ⟨b, o, e1, e2, e4⟩ := h4 j x hj
  refine ⟨b, o, e1, e2, ?_⟩
  rw [← e4]
  exact World.cell?_of_block (w := w) (hb.block b (by omega))
/-- What a call that reads leaves: only the reader's box was written. -/
def Rs (g : Nat) (l : Bs) (w w' : World) : Prop := MkO (some g) w w' ∧ Rdr w' g l
theorem Rs.trans {g : Nat} {l l' : Bs} {u v w : World} (h : Rs g l u v) (k : Rs g l' v w) : Rs g l' u w := ⟨h.1.trans k.1, k.2⟩
theorem Rs.bel {g : Nat} {l : Bs} {u v w : World} (h : Rs g l u v) (hb : Below v.heap.size v w) : Rs g l u w := ⟨h.1.trans (MkO.of_below hb), h.2.bel hb⟩
theorem Rs.refl {g : Nat} {l : Bs} {w : World} (h : Rdr w g l) : Rs g l w w := ⟨MkO.refl _ _, h⟩
theorem Rs.of {g : Nat} {l : Bs} {w w' : World} (h : Rdr w g l) (hb : Below w.heap.size w w') : Rs g l w w' := (Rs.refl h).bel hb

set_option maxHeartbeats 1600000 in
theorem next_any (g : Nat) (l : Bs) (w : World) (h : Rdr w g l) : Calls Tryz.prog 24 #[.pointer (some ⟨g, 0, none⟩)] w fun e w' => ∃ c : Nat, c < 256 ∧ e = .returned (.int .i64 (c : Int)) ∧ Rs g l.tail w w' ∧ Hid (nxc l = c) := by
  have H := hidR h
  obtain ⟨a, B, c, i, h1, h2, h3, h5, h4⟩ := h
  have c0 : w.cell? ⟨g, 0, none⟩ = some (.slice a B.length c) := by simp [World.cell?, h1]
  have c1 : w.cell? ⟨g, 1, none⟩ = some (.int .i64 (i : Int)) := by simp [World.cell?, h1]
  have z1 : w.frozen? ⟨g, 1, none⟩ = false := by simp [World.frozen?, h1]
  have hlt : g < w.heap.size := lt_of_block' h1
  have H1 := hidR h1
  have H4 := hidR h4
  have H5 := hidR h5
  clear h1 h4 h5
  by_cases hin : i < B.length
  · obtain ⟨x, hx⟩ : ∃ x, B[i]? = some x := ⟨B[i], by simp [hin]⟩
    obtain ⟨b, o, rfl, hbg, hcu⟩ := H4.out i x hx
    have HX := hidR (show B.drop i = x :: B.drop (i + 1) from drop_cons hx)
    have hu := x.toNat_lt
    have hI : ((i : Nat) : Int) < ((B.length : Nat) : Int) := by omega
    have hI0 : (0 : Int) ≤ (i : Int) := by omega
    clear hx
    go_enter Tryz.func24, Tryz.ntmps24
    go_wp2
    go_region
    go_wp2
    go_region
    go_wp2
    go_ret
    refine ⟨x.toNat, hu, rfl, ⟨?_, ?_⟩, ?_⟩
    · exact (MkO.set _).trans (MkO.of_below (Below.refl _ _).drew.drew)
    · refine ⟨some ⟨b, o, none⟩, B, c, i + 1, ?_, by omega, h3, by rw [H5.out, HX.out]; rfl, fun j y hj => ?_⟩
      · have := heap_setCell_same (w := w) (g := g) (i := 1) H1.out (.int .i64 ((i : Int) + 1))
        exact this
      · obtain ⟨b', o', e1, e2, e4⟩ := H4.out j y hj
        refine ⟨b', o', e1, e2, ?_⟩
        rw [← e4]
        exact World.cell?_of_block (w := w) (Below.heap_setCell _ _ _ _ (Nat.ne_of_lt e2))
    · show nxc l = x.toNat
      rw [H5.out, HX.out]
      rfl
  · have HE := hidR (show l = [] from by rw [H5.out]; exact List.drop_eq_nil_of_le (by omega))
    go_enter Tryz.func24, Tryz.ntmps24
    go_wp2
    go_region
    go_wp2
    go_ret
    refine ⟨0, by omega, rfl, ?_, ?_⟩
    · have := Rs.of H.out (Below.refl _ _).drew
      rw [HE.out] at this ⊢
      exact this
    · show nxc l = 0
      rw [HE.out]
      rfl
end Go.Proofs.YtjjjagepnnbebaaGreatDoor

namespace Go.Proofs.YtjjjagepnnbebaaGreatDoor

/-- Terms drawn so far, and what is still drawn. -/
def TFs (m0 : Nat) (K : List ByteArray) (l : Bs) (ts : List Tm) (j : Nat) (H : List ByteArray) (li : Bs) : Prop := termsF m0 K l = (ts ++ (termsF j H li).1, (termsF j H li).2)
theorem TFs.nil {m0 : Nat} {K : List ByteArray} {l : Bs} : TFs m0 K l [] m0 K l := by simp [TFs]
theorem TFs.step {m0 : Nat} {K : List ByteArray} {l : Bs} {ts : List Tm} {j : Nat} {H H' : List ByteArray} {li : Bs} {t : Tm} (h : TFs m0 K l ts j H li) (hj : 0 < j) (ht : t = (termF H li).1) (hH : H' = (if t.kind == 2 then H ++ [t.var] else H)) : TFs m0 K l (ts ++ [t]) (j - 1) H' (termF H li).2 := by
  obtain ⟨i, rfl⟩ : ∃ i, j = i + 1 := ⟨j - 1, by omega⟩
  subst hH
  subst ht
  unfold TFs at h ⊢
  rw [h]
  simp only [termsF, Nat.add_sub_cancel]
  simp
theorem TFs.fin {m0 : Nat} {K : List ByteArray} {l : Bs} {ts : List Tm} {H : List ByteArray} {li : Bs} (h : TFs m0 K l ts 0 H li) : termsF m0 K l = (ts, H, li) := by
  unfold TFs at h
  rw [h]
  simp [termsF]
/-- Patterns drawn so far, and what is still drawn. -/
def PFs (n0 : Nat) (l : Bs) (L : List Pt) (K : List ByteArray) (pos : Nat) (lr : Bs) : Prop := patsF 7 n0 [] 0 0 l = (L ++ (patsF (7 - L.length) n0 K pos L.length lr).1, (patsF (7 - L.length) n0 K pos L.length lr).2)
theorem PFs.nil {n0 : Nat} {l : Bs} : PFs n0 l [] [] 0 l := by simp [PFs]
theorem PFs.step {n0 m : Nat} {l : Bs} {L : List Pt} {K K' H : List ByteArray} {pos pos' : Nat} {lr li : Bs} {neg : Bool} {cls : ByteArray} {ts : List Tm} (h : PFs n0 l L K pos lr) (hm : L.length = m) (hL : m ≤ 6) (hgo : m < n0 ∨ pos = 0)
    (hneg : neg = (if m = 5 ∧ pos = 0 then false else (nxc lr % 4 == 3 || pos == 3))) (hcls : cls = clsF (nxc lr)) (hts : termsF (patC (nxc lr)) K lr.tail = (ts, H, li)) (hK : K' = (if neg then K else H)) (hpos : pos' = pos ∧ neg = true ∨ pos' = pos + 1 ∧ neg = false) : PFs n0 l (L ++ [⟨neg, cls, ts⟩]) K' pos' li := by
  have hp : patF K pos m lr = (⟨neg, cls, ts⟩, K', li) := by
    unfold patF
    rw [hts]
    simp only
    rw [← hneg, ← hcls, hK]
  have hp' : pos' = (if neg then pos else pos + 1) := by
    rcases hpos with ⟨rfl, rfl⟩ | ⟨rfl, rfl⟩ <;> rfl
  obtain ⟨i, hi⟩ : ∃ i, 7 - m = i + 1 := ⟨6 - m, by omega⟩
  have hi' : 7 - (m + 1) = i := by omega
  unfold PFs at h ⊢
  rw [List.length_append, List.length_singleton, hm, hi']
  rw [h, hm, hi]
  simp only [patsF]
  rw [if_pos hgo, hp]
  simp only [← hp']
  simp
theorem PFs.fin {n0 : Nat} {l : Bs} {L : List Pt} {K : List ByteArray} {pos : Nat} {lr : Bs} (h : PFs n0 l L K pos lr) (hL : L.length ≤ 6) (hgo : ¬ (L.length < n0 ∨ pos = 0)) : patsF 7 n0 [] 0 0 l = (L, K, pos, lr) := by
  obtain ⟨i, hi⟩ : ∃ i, 7 - L.length = i + 1 := ⟨6 - L.length, by omega⟩
  unfold PFs at h
  rw [h, hi]
  simp only [patsF]
  rw [if_neg hgo]
  simp
/-- Actions drawn so far, and what is still drawn. -/
def AFs (n5 : Nat) (K : List ByteArray) (pos : Nat) (l : Bs) (Ys : List Ac) (j : Nat) (xs : List Ex) (la : Bs) : Prop := actsF n5 K pos [] l = (Ys ++ (actsF j K pos xs la).1, (actsF j K pos xs la).2)
theorem AFs.nil {n5 : Nat} {K : List ByteArray} {pos : Nat} {l : Bs} : AFs n5 K pos l [] n5 [] l := by simp [AFs]
theorem AFs.step {n5 : Nat} {K : List ByteArray} {pos : Nat} {l : Bs} {Ys : List Ac} {j : Nat} {xs xs' : List Ex} {la la' : Bs} {A : Ac} (h : AFs n5 K pos l Ys j xs la) (hj : 0 < j) (hA : drActF K pos xs la = (A, xs', la')) : AFs n5 K pos l (Ys ++ [A]) (j - 1) xs' la' := by
  obtain ⟨i, rfl⟩ : ∃ i, j = i + 1 := ⟨j - 1, by omega⟩
  unfold AFs at h ⊢
  rw [h]
  simp only [actsF, Nat.add_sub_cancel]
  rw [hA]
  simp
theorem AFs.fin {n5 : Nat} {K : List ByteArray} {pos : Nat} {l : Bs} {Ys : List Ac} {xs : List Ex} {la : Bs} (h : AFs n5 K pos l Ys 0 xs la) : actsF n5 K pos [] l = (Ys, xs, la) := by
  unfold AFs at h
  rw [h]
  simp [actsF]
theorem act_add {K : List ByteArray} {pos n : Nat} {xs xs' : List Ex} {la : Bs} {cl : ByteArray} {zs : List Int} (hn : nxc la = n) (h : n % 8 = 0 ∨ n % 8 = 1 ∨ n % 8 = 2) (hc : cl = clsF (n / 8)) (hz : zs = (drArgs K xs la.tail).1 ∧ xs' = (drArgs K xs la.tail).2.1) : drActF K pos xs la = (⟨1, 0, cl, zs⟩, xs', (drArgs K xs la.tail).2.2) := by
  unfold drActF
  rw [hn, if_pos h, hc, hz.1, hz.2]
theorem act_drop {K : List ByteArray} {pos n : Nat} {xs : List Ex} {la : Bs} {z : Int} (hn : nxc la = n) (h : n % 8 = 3 ∨ n % 8 = 4) (hz : z = 1 + ((n / 8 % pos : Nat) : Int)) : drActF K pos xs la = (⟨2, z, ⟨#[]⟩, []⟩, xs, la.tail) := by
  unfold drActF
  rw [hn, if_neg (by omega), if_pos h, hz]
  rfl
theorem act_mod {K : List ByteArray} {pos n : Nat} {xs xs' : List Ex} {la : Bs} {z : Int} {zs : List Int} (hn : nxc la = n) (h : n % 8 = 5 ∨ n % 8 = 6) (hk : z = 1 + ((n / 8 % pos : Nat) : Int)) (hz : zs = (drArgs K xs la.tail).1 ∧ xs' = (drArgs K xs la.tail).2.1) : drActF K pos xs la = (⟨3, z, ⟨#[]⟩, zs⟩, xs', (drArgs K xs la.tail).2.2) := by
  unfold drActF
  rw [hn, if_neg (by omega), if_neg (by omega), if_pos h, hk, hz.1, hz.2]
  rfl
theorem act_halt {K : List ByteArray} {pos n : Nat} {xs : List Ex} {la : Bs} (hn : nxc la = n) (h : n % 8 = 7) : drActF K pos xs la = (⟨4, 0, ⟨#[]⟩, []⟩, xs, la.tail) := by
  unfold drActF
  rw [hn, if_neg (by omega), if_neg (by omega), if_neg (by omega)]
  rfl
theorem rule_fin {nm : ByteArray} {l : Bs} {sal : Int} {L : List Pt} {K : List ByteArray} {pos : Nat} {lz : Bs} {Ys : List Ac} {xs : List Ex} {la : Bs} (hs : sal = salF (nxc l)) (hp : patsF 7 (1 + nxc l / 5 % 4) [] 0 0 l.tail = (L, K, pos, lz)) (ha : actsF (1 + nxc lz % 3) K pos [] lz.tail = (Ys, xs, la)) : ruleF nm l = (⟨nm, sal, L, xs, Ys⟩, la) := by
  unfold ruleF
  rw [hp]
  simp only
  rw [ha, hs]
end Go.Proofs.YtjjjagepnnbebaaGreatDoor

namespace Go.Proofs.YtjjjagepnnbebaaGreatDoor

/-- Rules drawn so far, and what is still drawn. -/
def RFs (nm : Nat → ByteArray) (n0 : Nat) (l : Bs) (M : List Ru) (j : Nat) (lr : Bs) : Prop := rulesF nm n0 0 l = (M ++ (rulesF nm j M.length lr).1, (rulesF nm j M.length lr).2)
theorem RFs.nil {nm : Nat → ByteArray} {n0 : Nat} {l : Bs} : RFs nm n0 l [] n0 l := by simp [RFs]
theorem RFs.step {nm : Nat → ByteArray} {n0 m : Nat} {l : Bs} {M : List Ru} {j : Nat} {lr : Bs} {r : Ru} (h : RFs nm n0 l M j lr) (hm : M.length = m) (hj : 0 < j) (hr : r = (ruleF (nm m) lr).1) : RFs nm n0 l (M ++ [r]) (j - 1) (ruleF (nm m) lr).2 := by
  obtain ⟨i, rfl⟩ : ∃ i, j = i + 1 := ⟨j - 1, by omega⟩
  subst hr
  subst hm
  unfold RFs at h ⊢
  rw [h]
  simp only [rulesF, Nat.add_sub_cancel]
  simp
theorem RFs.fin {nm : Nat → ByteArray} {n0 : Nat} {l : Bs} {M : List Ru} {lr : Bs} (h : RFs nm n0 l M 0 lr) : rulesF nm n0 0 l = (M, lr) := by
  unfold RFs at h
  rw [h]
  simp [rulesF]
end Go.Proofs.YtjjjagepnnbebaaGreatDoor

namespace Go.Proofs.YtjjjagepnnbebaaGreatDoor

/-- Checked rules have right patterns, at most six. -/
theorem firstBad_noneM {α : Type} (f : α → Bool) : ∀ (l : List α) (k : Nat), firstBad f l k = none → ∀ x ∈ l, f x = true
  | [], _, _, x, hx => by simp at hx
  | y :: r, k, h, x, hx => by
    unfold firstBad at h
    cases hy : f y
    · rw [hy] at h
      simp at h
    · rw [hy] at h
      simp only [if_true] at h
      rcases List.mem_cons.1 hx with rfl | hx
      · exact hy
      · exact firstBad_noneM f r (k + 1) h x hx
theorem shape_pats {r : Ru} (h : shape r = none) : r.pats.length ≤ 6 ∧ ∀ p ∈ r.pats, gPt p = true := by
  unfold shape at h
  split at h
  · rename_i hh
    simp only [headOk, Bool.and_eq_true, decide_eq_true_eq] at hh
    refine ⟨hh.2.1, ?_⟩
    cases hb : firstBad gPt r.pats 1 with
    | some i => rw [hb] at h; cases h
    | none => exact firstBad_noneM gPt r.pats 1 hb
  · cases h
theorem chk1_shape {pre : List Ru} {r : Ru} (h : (chk1 pre r).1 = 0) : shape r = none ∧ positives r.pats ≤ 3 := by
  unfold chk1 at h
  cases hs : shape r with
  | some i => rw [hs] at h; simp at h
  | none =>
    refine ⟨rfl, ?_⟩
    rw [hs] at h
    simp only at h
    split at h
    · simp at h
    · split at h
      · rename_i hp
        exact hp.2
      · simp at h
theorem chkGo_each : ∀ (l pre : List Ru) (k : Nat), (chkGo pre l k).1 = 0 → ∀ r ∈ l, shape r = none ∧ positives r.pats ≤ 3
  | [], _, _, _, r, hr => by simp at hr
  | q :: s, pre, k, h, r, hr => by
    unfold chkGo at h
    split at h
    · rename_i h0
      rcases List.mem_cons.1 hr with rfl | hr
      · exact chk1_shape h0
      · exact chkGo_each s _ _ h r hr
    · rename_i h0
      exact absurd h h0
theorem chk_each {rs : List Ru} (h : (chk rs).1 = 0) : rs.length ≤ 16 ∧ ∀ r ∈ rs, shape r = none ∧ positives r.pats ≤ 3 := by
  unfold chk at h
  split at h
  · rename_i hl
    exact ⟨hl, chkGo_each rs [] 0 h⟩
  · simp at h
end Go.Proofs.YtjjjagepnnbebaaGreatDoor

namespace Go.Proofs.YtjjjagepnnbebaaGreatDoor

/-- Numbers that a machine has. -/
def RuN (r : Ru) : Prop := numOk r.sal ∧ (∀ p ∈ r.pats, ∀ t ∈ p.terms, numOk t.val.num) ∧ ∀ e ∈ r.exprs, numOk e.val.num
/-- What the texts ask of exprs. -/
def ExT (es : List Ex) (S : List Sp) : Prop := es.length ≤ 60 ∧ Spans es S ∧ S.length = es.length ∧ ∀ e ∈ es, numOk e.val.num
def AcT (es : List Ex) (a : Ac) : Prop := fieldsOk a = true ∧ a.args.length ≤ 6 ∧ ∀ v ∈ a.args, 0 ≤ v ∧ v < (es.length : Int)
def PtT (p : Pt) : Prop := gPt p = true ∧ ∀ t ∈ p.terms, numOk t.val.num
def RuT (r : Ru) : Prop := r.name.size ≤ 20 ∧ numOk r.sal ∧ r.pats.length ≤ 6 ∧ (∀ p ∈ r.pats, PtT p) ∧ r.acts.length ≤ 8 ∧ (∃ S, ExT r.exprs S) ∧ ∀ a ∈ r.acts, AcT r.exprs a

theorem argsGo_in {S : List Sp} : ∀ {l : List Int} {nx n : Nat}, argsGo S l nx = some n → ∀ v ∈ l, 0 ≤ v ∧ v < (S.length : Int)
  | [], _, _, _, v, hv => by simp at hv
  | x :: r, nx, n, h, v, hv => by
    unfold argsGo at h
    split at h
    · rename_i hc
      simp only [Bool.and_eq_true, decide_eq_true_eq] at hc
      rcases List.mem_cons.1 hv with rfl | hm
      · exact ⟨hc.1, hc.2.1⟩
      · exact argsGo_in h v hm
    · cases h
theorem actsGo_in {S : List Sp} : ∀ {l : List Ac} {nx k : Nat}, actsGo S l nx k = none → ∀ y ∈ l, fieldsOk y = true ∧ y.args.length ≤ 6 ∧ ∀ v ∈ y.args, 0 ≤ v ∧ v < (S.length : Int)
  | [], _, _, _, y, hy => by simp at hy
  | a :: r, nx, k, h, y, hy => by
    unfold actsGo at h
    cases hg : gAc S a nx with
    | none => rw [hg] at h; cases h
    | some n' =>
      rw [hg] at h
      rcases List.mem_cons.1 hy with rfl | hm
      · unfold gAc at hg
        split at hg
        · rename_i hc
          simp only [Bool.and_eq_true, decide_eq_true_eq] at hc
          exact ⟨hc.1, hc.2, argsGo_in hg⟩
        · cases hg
      · exact actsGo_in h y hm
theorem RuT.of {r : Ru} (h : shape r = none) (hn : RuN r) : RuT r := by
  obtain ⟨hp6, hpt⟩ := shape_pats h
  unfold shape at h
  split at h
  · rename_i hh
    simp only [headOk, Bool.and_eq_true, decide_eq_true_eq] at hh
    split at h
    · cases h
    · split at h
      · cases h
      · rename_i hlt
        have hS := (spansGo_spans (es := r.exprs) (l := r.exprs) (Spans.nil _) rfl).1
        have hfull : (spansGo [] r.exprs).length = r.exprs.length := by have := hS.1; omega
        have hf := actsGo_in h
        refine ⟨gSym_sz hh.1, hn.1, hp6, fun p hp => ⟨hpt p hp, hn.2.1 p hp⟩, hh.2.2.1, ⟨_, hh.2.2.2, hS, hfull, hn.2.2⟩, fun a ha => ⟨(hf a ha).1, (hf a ha).2.1, fun v hv => ?_⟩⟩
        have := (hf a ha).2.2 v hv
        rw [hfull] at this
        exact this
  · cases h

theorem spanT_leaf {S : List Sp} {e : Ex} {s : Sp} (h : spanOf S e = some s) (hk : e.kind ≠ 2) : (e.kind = 0 ∧ gVal e.val = true) ∨ (e.kind = 1 ∧ gSym e.var.data.toList = true) := by
  unfold spanOf at h
  by_cases k0 : e.kind = 0
  · simp [k0] at h
    exact .inl ⟨k0, h.1.2.2⟩
  by_cases k1 : e.kind = 1
  · simp [k1] at h
    exact .inr ⟨k1, h.1.2.1⟩
  · simp [k0, k1, hk] at h
theorem spanT_op {S : List Sp} {e : Ex} {s : Sp} (h : spanOf S e = some s) (hk : e.kind = 2) : isAr e.op = true := by
  unfold spanOf at h
  simp only [hk] at h
  rw [if_neg (by decide), if_neg (by decide), if_pos (by decide)] at h
  split at h
  · rename_i ho
    simp only [opOk, Bool.and_eq_true] at ho
    exact ho.1
  · cases h
theorem ExT.kind {es : List Ex} {S : List Sp} (h : ExT es S) {i : Nat} {e : Ex} (he : es[i]? = some e) : (e.kind = 0 ∧ gVal e.val = true) ∨ (e.kind = 1 ∧ gSym e.var.data.toList = true) ∨ (e.kind = 2 ∧ isAr e.op = true ∧ ∃ a b : Nat, e.a = (a : Int) ∧ e.b = (b : Int) ∧ a < i ∧ b < i) := by
  have hi : i < S.length := by rw [h.2.2.1]; exact (List.getElem?_eq_some_iff.1 he).1
  obtain ⟨s, hs⟩ : ∃ s, S[i]? = some s := ⟨S[i], by simp [hi]⟩
  by_cases hk : e.kind = 2
  · obtain ⟨a, b, sa, sb, ha, hb, h1, h2, _⟩ := h.2.1.op hs he hk
    exact .inr (.inr ⟨hk, spanT_op (h.2.1.2 i s e hs he) hk, a, b, ha, hb, by omega, by omega⟩)
  · rcases spanT_leaf (h.2.1.2 i s e hs he) hk with h | h
    · exact .inl h
    · exact .inr (.inl h)
theorem txE_le {es : List Ex} {S : List Sp} (h : ExT es S) : ∀ (n i : Nat) (s : Sp), S[i]? = some s → (txE n es i).length + 5 ≤ 40 * 2 ^ s.2
  | 0, i, s, _ => by
    have : 0 < 2 ^ s.2 := Nat.two_pow_pos _
    simp [txE]
    omega
  | n + 1, i, s, hs => by
    have hi : i < es.length := by rw [← h.2.2.1]; exact (List.getElem?_eq_some_iff.1 hs).1
    obtain ⟨e, he⟩ : ∃ e, es[i]? = some e := ⟨es[i], by simp [hi]⟩
    have hp : 0 < 2 ^ s.2 := Nat.two_pow_pos _
    rw [txE_one n es i e he]
    by_cases hk : e.kind = 2
    · obtain ⟨a, b, sa, sb, ha, hb, h1, h2, h3, h4, rfl⟩ := h.2.1.op hs he hk
      rw [if_neg (by omega), if_pos hk, ha, hb]
      have e1 := txE_le h n a sa h3
      have e2 := txE_le h n b sb h4
      have p1 : 2 ^ sa.2 ≤ 2 ^ max sa.2 sb.2 := Nat.pow_le_pow_right (by omega) (by omega)
      have p2 : 2 ^ sb.2 ≤ 2 ^ max sa.2 sb.2 := Nat.pow_le_pow_right (by omega) (by omega)
      have p3 : 2 ^ (1 + max sa.2 sb.2) = 2 * 2 ^ max sa.2 sb.2 := by rw [Nat.add_comm, Nat.pow_succ, Nat.mul_comm]
      simp only [List.length_cons, List.length_append, List.length_nil, Int.toNat_natCast]
      omega
    · rcases h.kind he with ⟨k, hv⟩ | ⟨k, hv⟩ | ⟨k, _⟩
      · rw [if_neg (by omega), if_neg hk]
        have := txV_le hv (h.2.2.2 e (List.mem_of_getElem? he))
        omega
      · rw [if_pos k]
        have := gSym_sz hv
        simp only [List.length_cons, bs_length]
        omega
      · exact absurd k hk
theorem txE_short {es : List Ex} {S : List Sp} (h : ExT es S) (n i : Nat) (hi : i < es.length) : (txE n es i).length ≤ 41943040 := by
  have hi' : i < S.length := by rw [h.2.2.1]; exact hi
  have hs : S[i]? = some S[i] := by simp [hi']
  have h1 := txE_le h n i _ hs
  have h2 := h.2.1.depth_le i _ hs
  have h3 : 2 ^ (S[i]).2 ≤ 2 ^ 20 := Nat.pow_le_pow_right (by omega) h2
  omega

theorem flat_le {α : Type} {f : α → Bs} {N : Nat} : ∀ {l : List α}, (∀ x ∈ l, (f x).length ≤ N) → (l.flatMap f).length ≤ N * l.length
  | [], _ => by simp
  | x :: r, h => by
    have h1 := flat_le (l := r) (fun y hy => h y (by simp [hy]))
    have h2 := h x (by simp)
    rw [List.flatMap_cons, List.length_append, List.length_cons, Nat.mul_succ]
    omega
theorem txArgs_le {es : List Ex} {S : List Sp} (h : ExT es S) {l : List Int} (hl : l.length ≤ 6) (hv : ∀ v ∈ l, 0 ≤ v ∧ v < (es.length : Int)) : (txArgs es l).length ≤ 300000000 := by
  have := flat_le (f := fun x : Int => 32 :: txE 60 es x.toNat) (N := 41943041) (l := l) (fun x hx => by
    have h1 := hv x hx
    have := txE_short h 60 x.toNat (by omega)
    simp only [List.length_cons]
    omega)
  unfold txArgs
  omega
theorem kOk_num {k : Int} (h : kOk k = true) : numOk k := by
  simp only [kOk, Bool.and_eq_true, decide_eq_true_eq] at h
  exact ⟨by omega, by omega⟩
theorem gCls_sz {s : ByteArray} (h : gCls s = true) : s.size ≤ 20 := by
  simp only [gCls, Bool.and_eq_true] at h
  exact gSym_sz h.1
theorem AcT.cases {es : List Ex} {a : Ac} (h : AcT es a) : (a.kind = 1 ∧ a.cls.size ≤ 20) ∨ (a.kind = 2 ∧ numOk a.k ∧ a.args = []) ∨ (a.kind = 3 ∧ numOk a.k) ∨ (a.kind = 4 ∧ a.args = []) := by
  have hf := h.1
  unfold fieldsOk at hf
  by_cases k1 : a.kind = 1
  · simp [k1] at hf
    exact .inl ⟨k1, gCls_sz hf.1⟩
  by_cases k2 : a.kind = 2
  · simp [k2] at hf
    exact .inr (.inl ⟨k2, kOk_num hf.1.2, hf.2⟩)
  by_cases k3 : a.kind = 3
  · simp [k3] at hf
    exact .inr (.inr (.inl ⟨k3, kOk_num hf.2⟩))
  by_cases k4 : a.kind = 4
  · simp [k4] at hf
    exact .inr (.inr (.inr ⟨k4, hf.2.2⟩))
  · simp [k1, k2, k3, k4] at hf
theorem txHead_le {es : List Ex} {a : Ac} (h : AcT es a) : (txHead a).length ≤ 30 := by
  unfold txHead
  rcases h.cases with ⟨k, hs⟩ | ⟨k, hk, _⟩ | ⟨k, hk⟩ | ⟨k, _⟩
  · simp [k, addB, bs_length]
    omega
  · have := Lib.itoa_length_le _ hk.1 hk.2
    simp [k, dropB]
    omega
  · have := Lib.itoa_length_le _ hk.1 hk.2
    simp [k, modB]
    omega
  · simp [k, haltB]
theorem txA_le {es : List Ex} {S : List Sp} (h : ExT es S) {a : Ac} (ha : AcT es a) : (txA es a).length ≤ 300000040 := by
  have h1 := txHead_le ha
  have h2 := txArgs_le h ha.2.1 ha.2.2
  unfold txA
  simp only [List.length_cons, List.length_append, List.length_nil]
  omega
theorem txTs_le {l : List Tm} (hl : l.length ≤ 6) (h : ∀ t ∈ l, gTm t = true ∧ numOk t.val.num) : (txTs l).length ≤ 200 := by
  have := flat_le (f := fun t : Tm => 32 :: txT t) (N := 31) (l := l) (fun x hx => by
    have := txT_le (h x hx).1 (h x hx).2
    simp only [List.length_cons]
    omega)
  unfold txTs
  omega
theorem PtT.get {p : Pt} (h : PtT p) : p.cls.size ≤ 20 ∧ p.terms.length ≤ 6 ∧ ∀ t ∈ p.terms, gTm t = true ∧ numOk t.val.num := by
  have hg := h.1
  simp only [gPt, Bool.and_eq_true, decide_eq_true_eq, List.all_eq_true] at hg
  exact ⟨gCls_sz hg.1, hg.2.1, fun t ht => ⟨hg.2.2 t ht, h.2 t ht⟩⟩
theorem txP_le {p : Pt} (h : PtT p) : (txP p).length ≤ 240 := by
  obtain ⟨h1, h2, h3⟩ := h.get
  have := txTs_le h2 h3
  unfold txP
  simp only [List.length_cons, List.length_append, List.length_nil, bs_length]
  split
  · simp [notX]
    omega
  · simp
    omega
theorem txPs_le {l : List Pt} (hl : l.length ≤ 6) (h : ∀ p ∈ l, PtT p) : (txPs l).length ≤ 2000 := by
  have := flat_le (f := fun p : Pt => lineB ++ txP p) (N := 243) (l := l) (fun x hx => by
    have := txP_le (h x hx)
    simp only [List.length_append, lineB, List.length_cons, List.length_nil]
    omega)
  unfold txPs
  omega
theorem txAs_le {es : List Ex} {S : List Sp} (h : ExT es S) {l : List Ac} (hl : l.length ≤ 8) (ha : ∀ a ∈ l, AcT es a) : (txAs es l).length ≤ 2500000000 := by
  have := flat_le (f := fun a : Ac => lineB ++ txA es a) (N := 300000043) (l := l) (fun x hx => by
    have := txA_le h (ha x hx)
    simp only [List.length_append, lineB, List.length_cons, List.length_nil]
    omega)
  unfold txAs
  omega
theorem txHd_le {r : Ru} (h : RuT r) : (txHd r).length ≤ 60 := by
  have := Lib.itoa_length_le _ h.2.1.1 h.2.1.2
  have := h.1
  unfold txHd
  simp only [List.length_append, List.length_cons, ruleB, List.length_nil, bs_length]
  omega
theorem txR_le {r : Ru} (h : RuT r) : (txR r).length ≤ 2600000000 := by
  have h1 := txHd_le h
  obtain ⟨_, _, h2, h3, h4, ⟨S, h5⟩, h6⟩ := h
  have := txPs_le h2 h3
  have := txAs_le h5 h4 h6
  unfold txR
  simp only [List.length_append, List.length_cons, lineB, thenB, List.length_nil]
  omega
theorem txRs_le {l : List Ru} (hl : l.length ≤ 16) (h : ∀ r ∈ l, RuT r) : (txRs l).length ≤ 42000000000 := by
  have := flat_le (f := txR) (N := 2600000000) (l := l) (fun x hx => txR_le (h x hx))
  unfold txRs
  omega
theorem flat_takeS {α : Type} (f : α → Bs) {l : List α} {k : Nat} {x : α} (h : l[k]? = some x) : (l.take (k + 1)).flatMap f = (l.take k).flatMap f ++ f x := by
  rw [List.take_add_one, h, List.flatMap_append]
  simp
theorem chk_T {rs : List Ru} (h : (chk rs).1 = 0) (hn : ∀ r ∈ rs, RuN r) : rs.length ≤ 16 ∧ ∀ r ∈ rs, RuT r := by
  obtain ⟨h1, h2⟩ := chk_each h
  exact ⟨h1, fun r hr => RuT.of (h2 r hr).1 (hn r hr)⟩
end Go.Proofs.YtjjjagepnnbebaaGreatDoor

namespace Go.Proofs.YtjjjagepnnbebaaGreatDoor
open Go.RowKit
attribute [local go_sem ↓] Go.wp_at_zero Go.wp_at_succ

/-- Six texts of tests at an address. -/
def TestsAt (w : World) (g o : Nat) : Prop := ∀ k, k < 6 → w.cell? ⟨g, o + k, none⟩ = some (.string (mkS (opTx.getD k [])))
theorem TestsAt.below {w w' : World} {g o : Nat} (h : TestsAt w g o) (hb : Below w.heap.size w w') : TestsAt w' g o := fun k hk => cell_below hb (h k hk)

theorem sz_one (x : UInt8) : ({ data := #[x] } : ByteArray).size = 1 := rfl
end Go.Proofs.YtjjjagepnnbebaaGreatDoor

namespace Go.Proofs.YtjjjagepnnbebaaGreatDoor

def isDg (b : UInt8) : Bool := decide (48 ≤ b.toNat) && decide (b.toNat ≤ 57)
def dFrom (acc : Nat) (l : Bs) : Nat := l.foldl (fun a b => a * 10 + (b.toNat - 48)) acc
def dVal (l : Bs) : Nat := dFrom 0 l
/-- Digits as a number is written: no nought ahead but of nought itself. -/
def canon (l : Bs) : Prop := l ≠ [] ∧ l.all isDg = true ∧ (l.head? ≠ some 48 ∨ l = [48])
theorem dFrom_snoc (acc : Nat) (l : Bs) (b : UInt8) : dFrom acc (l ++ [b]) = dFrom acc l * 10 + (b.toNat - 48) := by simp [dFrom]
theorem dFrom_cons (acc : Nat) (b : UInt8) (l : Bs) : dFrom acc (b :: l) = dFrom (acc * 10 + (b.toNat - 48)) l := by
  unfold dFrom
  rw [List.foldl_cons]
theorem dg_toNat {m : Nat} (h : m < 10) : (UInt8.ofNat (48 + m)).toNat = 48 + m := by
  rw [UInt8.toNat_ofNat']
  exact Nat.mod_eq_of_lt (by omega)
theorem dVal_digits : ∀ u : Nat, dVal (Lib.decDigits u) = u := by
  intro u
  induction u using Nat.strongRecOn with
  | _ u ih =>
    rw [Lib.decDigits]
    by_cases h : u < 10
    · rw [dif_pos h]
      unfold dVal dFrom
      rw [List.foldl_cons, List.foldl_nil, dg_toNat h]
      omega
    · rw [dif_neg h, dVal, dFrom_snoc, dg_toNat (by omega)]
      have := ih (u / 10) (by omega)
      unfold dVal at this
      rw [this]
      omega
theorem isDg_of {m : Nat} (h : m < 10) : isDg (UInt8.ofNat (48 + m)) = true := by
  unfold isDg
  rw [dg_toNat h]
  simp
  omega
theorem digits_all : ∀ u : Nat, (Lib.decDigits u).all isDg = true := by
  intro u
  induction u using Nat.strongRecOn with
  | _ u ih =>
    rw [Lib.decDigits]
    by_cases h : u < 10
    · rw [dif_pos h]
      rw [List.all_cons, isDg_of h]
      rfl
    · rw [dif_neg h, List.all_append, ih (u / 10) (by omega)]
      rw [List.all_cons, isDg_of (by omega)]
      rfl
theorem digits_ne (u : Nat) : Lib.decDigits u ≠ [] := by
  intro h
  have := Lib.decDigits_length u
  rw [h] at this
  have := Lib.nDigits_pos u
  simp at *
  omega
theorem digits_head : ∀ u : Nat, 0 < u → (Lib.decDigits u).head? ≠ some 48 := by
  intro u
  induction u using Nat.strongRecOn with
  | _ u ih =>
    intro h0
    rw [Lib.decDigits]
    by_cases h : u < 10
    · rw [dif_pos h]
      intro e
      have e' : UInt8.ofNat (48 + u) = 48 := by simpa using e
      have := congrArg UInt8.toNat e'
      rw [dg_toNat h] at this
      have h48 : (48 : UInt8).toNat = 48 := rfl
      omega
    · rw [dif_neg h]
      have h1 := ih (u / 10) (by omega) (by omega)
      have h2 := digits_ne (u / 10)
      cases hd : Lib.decDigits (u / 10) with
      | nil => exact absurd hd h2
      | cons x r =>
        rw [hd] at h1
        simpa using h1
theorem dg_back {b : UInt8} (h : isDg b = true) : UInt8.ofNat (48 + (b.toNat - 48)) = b := by
  unfold isDg at h
  simp at h
  rw [show 48 + (b.toNat - 48) = b.toNat by omega]
  simp
theorem dg_lt {b : UInt8} (h : isDg b = true) : b.toNat - 48 < 10 := by
  unfold isDg at h
  simp at h
  omega
theorem dFrom_le : ∀ (l : Bs) (acc : Nat), acc ≤ dFrom acc l
  | [], acc => Nat.le_refl _
  | b :: l, acc => by
    rw [dFrom_cons]
    have := dFrom_le l (acc * 10 + (b.toNat - 48))
    omega
/-- Digits in the right form are what their number is written as. -/
theorem digits_dVal : ∀ (n : Nat) (l : Bs), l.length = n → canon l → Lib.decDigits (dVal l) = l := by
  intro n
  induction n with
  | zero => exact fun l h hc => absurd (List.eq_nil_of_length_eq_zero h) hc.1
  | succ n ih =>
    intro l hl hc
    obtain ⟨hne, hall, hh⟩ := hc
    obtain ⟨r, b, rfl⟩ : ∃ r b, l = r ++ [b] := ⟨l.dropLast, l.getLast hne, (List.dropLast_concat_getLast hne).symm⟩
    have hrl : r.length = n := by simpa using hl
    rw [List.all_append] at hall
    simp at hall
    obtain ⟨hra, hb⟩ := hall
    cases r with
    | nil =>
      simp only [List.nil_append, dVal, dFrom, List.foldl_cons, List.foldl_nil, Nat.zero_mul, Nat.zero_add]
      rw [Lib.decDigits, dif_pos (dg_lt hb)]
      rw [dg_back hb]
    | cons x r =>
      have hx48 : x ≠ 48 := by
        rcases hh with hh | hh
        · simpa using hh
        · simp at hh
      have hcr : canon (x :: r) := ⟨by simp, by simpa using hra, .inl (by simpa using hx48)⟩
      have h1 := ih (x :: r) hrl hcr
      have hpos : 0 < dVal (x :: r) := by
        have hx : isDg x = true := hra x (by simp)
        have h2 : 0 < x.toNat - 48 := by
          unfold isDg at hx
          simp at hx
          have h3 : x.toNat ≠ 48 := fun e => hx48 (UInt8.toNat_inj.1 (by rw [e]; rfl))
          omega
        unfold dVal
        rw [dFrom_cons]
        have := dFrom_le r (0 * 10 + (x.toNat - 48))
        omega
      have hd := dg_lt hb
      have e : dVal (x :: r ++ [b]) = dVal (x :: r) * 10 + (b.toNat - 48) := dFrom_snoc _ _ _
      rw [e, Lib.decDigits, dif_neg (by omega)]
      rw [show (dVal (x :: r) * 10 + (b.toNat - 48)) / 10 = dVal (x :: r) by omega, show (dVal (x :: r) * 10 + (b.toNat - 48)) % 10 = b.toNat - 48 by omega, h1, dg_back hb]

/-- What a word says as a number. -/
def spell (s : Bs) : Int := match s with
  | [] => 0
  | b :: d => if b = 45 then -(dVal d : Int) else (dVal (b :: d) : Int)
def numOf (s : Bs) : Option Int := if decide (-9223372036854775808 ≤ spell s) && (decide (spell s ≤ 9223372036854775807) && decide (Lib.itoa (spell s) = s)) then some (spell s) else none
theorem digit_ne45 {b : UInt8} (h : isDg b = true) : b ≠ 45 := by
  rintro rfl
  exact absurd h (by decide)
theorem spell_digits (u : Nat) : spell (Lib.decDigits u) = (u : Int) := by
  have h1 := digits_ne u
  have h2 := digits_all u
  have h3 := dVal_digits u
  cases hd : Lib.decDigits u with
  | nil => exact absurd hd h1
  | cons b d =>
    rw [hd] at h2 h3
    simp at h2
    unfold spell
    simp only
    rw [if_neg (digit_ne45 h2.1), h3]
theorem spell_itoa (n : Int) : spell (Lib.itoa n) = n := by
  unfold Lib.itoa
  by_cases h : n < 0
  · rw [if_pos h]
    unfold spell
    simp only [if_pos]
    rw [dVal_digits]
    omega
  · rw [if_neg h, spell_digits]
    omega
theorem numOf_itoa {n : Int} (hn : numOk n) : numOf (Lib.itoa n) = some n := by
  have e := spell_itoa n
  unfold numOf
  rw [e]
  simp [hn.1, hn.2]
theorem numOf_some {s : Bs} {n : Int} (h : numOf s = some n) : s = Lib.itoa n ∧ numOk n := by
  unfold numOf at h
  split at h
  · rename_i hc
    simp only [Bool.and_eq_true, decide_eq_true_eq] at hc
    injection h with h
    subst h
    exact ⟨hc.2.2.symm, hc.1, hc.2.1⟩
  · cases h

/-- The program's way. -/
def stripM (s : Bs) : Bs := if s.head? = some 45 then s.tail else s
theorem uintM_ok : ∀ (l : Bs) (acc : Nat), l.all isDg = true → acc ≤ 2 ^ 64 - 1 → Lib.parseUintM (2 ^ 64 - 1) acc l = if dFrom acc l ≤ 2 ^ 64 - 1 then .ok (dFrom acc l) else .range
  | [], acc, _, h => by
    have e : dFrom acc [] = acc := rfl
    rw [e, Lib.parseUintM, if_pos (by omega)]
  | b :: l, acc, ha, h => by
    simp at ha
    have hb := ha.1
    have hd := dg_lt hb
    unfold isDg at hb
    simp at hb
    rw [Lib.parseUintM, if_pos hb, dFrom_cons]
    have hle := dFrom_le l (acc * 10 + (b.toNat - 48))
    by_cases h1 : 1844674407370955162 ≤ acc
    · rw [if_pos h1, if_neg (by omega)]
    · rw [if_neg h1]
      by_cases h2 : 2 ^ 64 - 1 < acc * 10 + (b.toNat - 48)
      · rw [if_pos h2, if_neg (by omega)]
      · rw [if_neg h2]
        exact uintM_ok l _ (by simpa using ha.2) (by omega)
theorem itoa_pos {n : Int} (h : ¬ n < 0) : Lib.itoa n = Lib.decDigits n.toNat := by unfold Lib.itoa; rw [if_neg h]
theorem itoa_neg' {n : Int} (h : n < 0) : Lib.itoa n = 45 :: Lib.decDigits n.natAbs := by unfold Lib.itoa; rw [if_pos h]
theorem digits_not45 (u : Nat) : (Lib.decDigits u).head? ≠ some 45 := by
  have h2 := digits_all u
  cases hd : Lib.decDigits u with
  | nil => simp
  | cons b d =>
    rw [hd] at h2
    simp at h2
    simpa using digit_ne45 h2.1
theorem strip_itoa (n : Int) : stripM (Lib.itoa n) = Lib.decDigits n.natAbs := by
  unfold stripM
  by_cases h : n < 0
  · rw [itoa_neg' h]
    simp
  · rw [itoa_pos h, if_neg (digits_not45 _), show n.toNat = n.natAbs by omega]
theorem numOf_zero : numOf [48] = some 0 := by
  have e : Lib.itoa 0 = [48] := by rw [itoa_pos (by omega), Lib.decDigits]; rfl
  have := numOf_itoa (n := 0) ⟨by omega, by omega⟩
  rw [e] at this
  exact this
theorem numOf_bad1 {s : Bs} (h0 : s ≠ [48]) (h : stripM s = [] ∨ (stripM s).head? = some 48) : numOf s = none := by
  cases hn : numOf s with
  | none => rfl
  | some n =>
    obtain ⟨rfl, _⟩ := numOf_some hn
    rw [strip_itoa] at h
    rcases h with h | h
    · exact absurd h (digits_ne _)
    · by_cases hz : 0 < n.natAbs
      · exact absurd h (digits_head _ hz)
      · obtain rfl : n = 0 := by omega
        exact absurd (by rw [itoa_pos (by omega), Lib.decDigits]; rfl) h0
theorem numOf_bad2 {s : Bs} (h : (stripM s).all isDg = false) : numOf s = none := by
  cases hn : numOf s with
  | none => rfl
  | some n =>
    obtain ⟨rfl, _⟩ := numOf_some hn
    rw [strip_itoa, digits_all] at h
    cases h
theorem itoa_strip {s : Bs} (h1 : stripM s ≠ []) (h2 : (stripM s).head? ≠ some 48) (h3 : (stripM s).all isDg = true) : Lib.itoa (spell s) = s := by
  have hc : canon (stripM s) := ⟨h1, h3, .inl h2⟩
  have hd := digits_dVal _ _ rfl hc
  cases s with
  | nil => exact absurd rfl h1
  | cons b d =>
    by_cases hb : b = 45
    · subst hb
      have e : stripM (45 :: d) = d := rfl
      rw [e] at hd h1 h2 h3
      have hpos : 0 < dVal d := by
        by_cases hz : 0 < dVal d
        · exact hz
        · have : dVal d = 0 := by omega
          rw [this, Lib.decDigits, dif_pos (by omega)] at hd
          rw [← hd] at h2
          exact absurd rfl h2
      have e2 : spell (45 :: d) = -(dVal d : Int) := rfl
      rw [e2, itoa_neg' (by omega), show (-(dVal d : Int)).natAbs = dVal d by omega, hd]
    · have e : stripM (b :: d) = b :: d := by unfold stripM; rw [if_neg (by simpa using hb)]
      rw [e] at hd
      have e2 : spell (b :: d) = (dVal (b :: d) : Int) := by unfold spell; simp only [if_neg hb]
      rw [e2, itoa_pos (by omega), show ((dVal (b :: d) : Int)).toNat = dVal (b :: d) by omega, hd]
theorem pInt_eq {s : Bs} (h1 : stripM s ≠ []) (h3 : (stripM s).all isDg = true) : Lib.parseIntB 64 s = if -9223372036854775808 ≤ spell s ∧ spell s ≤ 9223372036854775807 then .ok (spell s) else .range := by
  cases s with
  | nil => exact absurd rfl h1
  | cons b d =>
    by_cases hb : b = 45
    · subst hb
      have e : stripM (45 :: d) = d := rfl
      rw [e] at h1 h3
      have hu : Lib.parseUintB 64 d = if dVal d ≤ 2 ^ 64 - 1 then .ok (dVal d) else .range := by
        unfold Lib.parseUintB
        rw [if_neg h1]
        exact uintM_ok d 0 h3 (by omega)
      have e2 : spell (45 :: d) = -(dVal d : Int) := rfl
      unfold Lib.parseIntB
      simp only
      have h45 : (45 : UInt8).toNat = 45 := rfl
      rw [if_pos (Or.inr h45), hu, e2]
      by_cases hr : dVal d ≤ 2 ^ 64 - 1
      · rw [if_pos hr]
        simp only
        rw [if_neg (by rw [h45]; omega)]
        by_cases hq : 2 ^ (64 - 1) < dVal d
        · rw [if_pos ⟨h45, hq⟩, if_neg (by omega)]
        · rw [if_neg (by omega), if_pos h45, if_pos (by omega)]
      · rw [if_neg hr]
        simp only
        rw [if_neg (by omega)]
    · have e : stripM (b :: d) = b :: d := by unfold stripM; rw [if_neg (by simpa using hb)]
      rw [e] at h3
      have hbd : isDg b = true := by simp at h3; exact h3.1
      have hb2 : ¬ (b.toNat = 43 ∨ b.toNat = 45) := by
        unfold isDg at hbd
        simp at hbd
        omega
      have hb3 : ¬ b.toNat = 45 := fun h => hb2 (.inr h)
      have hu : Lib.parseUintB 64 (b :: d) = if dVal (b :: d) ≤ 2 ^ 64 - 1 then .ok (dVal (b :: d)) else .range := by
        unfold Lib.parseUintB
        rw [if_neg (by simp)]
        exact uintM_ok (b :: d) 0 h3 (by omega)
      have e2 : spell (b :: d) = (dVal (b :: d) : Int) := by unfold spell; simp only [if_neg hb]
      unfold Lib.parseIntB
      simp only
      rw [if_neg hb2, hu, e2]
      by_cases hr : dVal (b :: d) ≤ 2 ^ 64 - 1
      · rw [if_pos hr]
        simp only
        by_cases hq : 2 ^ (64 - 1) ≤ dVal (b :: d)
        · rw [if_pos ⟨hb3, hq⟩, if_neg (by omega)]
        · rw [if_neg (fun h => hq h.2), if_neg (fun h => hb3 h.1), if_neg hb3, if_pos (by omega)]
      · rw [if_neg hr]
        simp only
        rw [if_neg (by omega)]
theorem numOf_good {s : Bs} (h1 : stripM s ≠ []) (h2 : (stripM s).head? ≠ some 48) (h3 : (stripM s).all isDg = true) : (∃ v, Lib.parseIntB 64 s = .ok v ∧ numOf s = some v) ∨ (Lib.parseIntB 64 s = .range ∧ numOf s = none) := by
  rw [pInt_eq h1 h3]
  have hi := itoa_strip h1 h2 h3
  unfold numOf
  by_cases hr : -9223372036854775808 ≤ spell s ∧ spell s ≤ 9223372036854775807
  · rw [if_pos hr]
    exact .inl ⟨_, rfl, by rw [if_pos (by simp [hr.1, hr.2, hi])]⟩
  · rw [if_neg hr]
    refine .inr ⟨rfl, ?_⟩
    rw [if_neg]
    intro hc
    simp only [Bool.and_eq_true, decide_eq_true_eq] at hc
    exact hr ⟨hc.1, hc.2.1⟩
end Go.Proofs.YtjjjagepnnbebaaGreatDoor

namespace Go.Proofs.YtjjjagepnnbebaaGreatDoor
open Go.RowKit
attribute [local go_sem ↓] Go.wp_at_zero Go.wp_at_succ

/-- A number that was looked for. -/
def IPost (s : Bs) (w : World) (e : Ending) (w' : World) : Prop := ∃ (n : Int) (b : Bool), e = .returned (.tuple #[.int .i64 n, .bool b]) ∧ numOf s = (if b then some n else none) ∧ Below w.heap.size w w'
theorem IPost.no {s : Bs} {w w' : World} {e : Ending} (n : Int) (he : e = .returned (.tuple #[.int .i64 n, .bool false])) (hn : numOf s = none) (hb : Below w.heap.size w w') : IPost s w e w' := ⟨n, false, he, by rw [hn]; rfl, hb⟩
theorem bs_head (s : ByteArray) (h : 0 < s.size) : (bsOf s).head? = some s[0] := by
  obtain ⟨⟨l⟩⟩ := s
  cases l with
  | nil => exact absurd h (Nat.lt_irrefl 0)
  | cons a l => rfl
theorem all_take_step {l : Bs} {f : UInt8 → Bool} {k : Nat} (hk : k < l.length) (h : (l.take k).all f = true) (hb : f l[k] = true) : (l.take (k + 1)).all f = true := by
  rw [List.take_add_one, List.getElem?_eq_getElem hk, List.all_append, h]
  simp [hb]
end Go.Proofs.YtjjjagepnnbebaaGreatDoor
