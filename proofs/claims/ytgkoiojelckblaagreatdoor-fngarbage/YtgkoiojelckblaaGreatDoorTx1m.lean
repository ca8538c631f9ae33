/-
  OUR OWN TEXT. Rules as texts: the plain mathematics, nothing of the walk.
-/
import Derived.Test.YtgkoiojelckblaaGreatDoorKag
import Derived.Lib.Join
import Derived.Lib.ItoaLen
namespace Go.Proofs.YtgkoiojelckblaaGreatDoor

abbrev Bs := List UInt8
def bsOf (s : ByteArray) : Bs := s.data.toList
def mkS (l : Bs) : ByteArray := ⟨l.toArray⟩
theorem bs_mkS (l : Bs) : bsOf (mkS l) = l := rfl
theorem mkS_bs (s : ByteArray) : mkS (bsOf s) = s := by
  cases s
  simp [mkS, bsOf]
theorem mkS_app (a b : Bs) : mkS a ++ mkS b = mkS (a ++ b) := by
  apply ByteArray.ext
  simp [mkS, ByteArray.data_append]
theorem mkS_app' (s : ByteArray) (b : Bs) : mkS b ++ s = mkS (b ++ bsOf s) := by rw [← mkS_app, mkS_bs]
theorem mkS_size (l : Bs) : (mkS l).size = l.length := by simp [mkS, ByteArray.size]
theorem bs_length (s : ByteArray) : (bsOf s).length = s.size := Array.length_toList
def txV (v : V) : Bs := if v.kind = 1 then bsOf v.sym else Lib.itoa v.num
def opTx : List Bs := [[61], [33, 61], [60], [62], [60, 61], [62, 61]]
def txO (t : Tm) : Bs := if isE t.var then txV t.val else 63 :: bsOf t.var
def txT (t : Tm) : Bs :=
  if t.kind = 1 then txV t.val
  else if t.kind = 2 then 63 :: bsOf t.var
  else if t.kind = 3 then 40 :: (opTx.getD (t.op.toNat - 1) [] ++ 32 :: (txO t ++ [41]))
  else [95]
def txE : Nat → List Ex → Nat → Bs
  | 0, _, _ => []
  | n + 1, es, i => match es[i]? with
    | none => []
    | some e =>
      if e.kind = 1 then 63 :: bsOf e.var
      else if e.kind = 2 then 40 :: UInt8.ofNat e.op.toNat :: 32 :: (txE n es e.a.toNat ++ 32 :: (txE n es e.b.toNat ++ [41]))
      else txV e.val
def txArgs (es : List Ex) (l : List Int) : Bs := l.flatMap fun x => 32 :: txE 60 es x.toNat
def addB : Bs := [97, 100, 100]
def dropB : Bs := [100, 114, 111, 112]
def modB : Bs := [109, 111, 100]
def haltB : Bs := [104, 97, 108, 116]
def ruleB : Bs := [40, 114, 117, 108, 101, 32]
def notX : Bs := [110, 111, 116]
def lineB : Bs := [10, 32, 32]
def thenB : Bs := [61, 62]
def txHead (a : Ac) : Bs :=
  if a.kind = 1 then addB ++ 32 :: bsOf a.cls
  else if a.kind = 2 then dropB ++ 32 :: Lib.itoa a.k
  else if a.kind = 3 then modB ++ 32 :: Lib.itoa a.k
  else haltB
def txA (es : List Ex) (a : Ac) : Bs := 40 :: (txHead a ++ (txArgs es a.args ++ [41]))
def txTs (l : List Tm) : Bs := l.flatMap fun t => 32 :: txT t
def txP (p : Pt) : Bs := 40 :: ((if p.neg then notX ++ [32] else []) ++ (bsOf p.cls ++ (txTs p.terms ++ [41])))
def txPs (l : List Pt) : Bs := l.flatMap fun p => lineB ++ txP p
def txAs (es : List Ex) (l : List Ac) : Bs := l.flatMap fun a => lineB ++ txA es a
def txHd (r : Ru) : Bs := ruleB ++ (bsOf r.name ++ 32 :: Lib.itoa r.sal)
def txR (r : Ru) : Bs := txHd r ++ (txPs r.pats ++ (lineB ++ (thenB ++ (txAs r.exprs r.acts ++ [41, 10]))))
def txRs (l : List Ru) : Bs := l.flatMap txR
theorem txE_one (n : Nat) (es : List Ex) (i : Nat) (e : Ex) (h : es[i]? = some e) : txE (n + 1) es i = if e.kind = 1 then 63 :: bsOf e.var else if e.kind = 2 then 40 :: UInt8.ofNat e.op.toNat :: 32 :: (txE n es e.a.toNat ++ 32 :: (txE n es e.b.toNat ++ [41])) else txV e.val := by
  rw [txE, h]

def numOk (n : Int) : Prop := -9223372036854775808 ≤ n ∧ n ≤ 9223372036854775807
theorem gSym_le {l : Bs} (h : gSym l = true) : l.length ≤ 20 := by
  unfold gSym at h
  simp only [Bool.and_eq_true, decide_eq_true_eq] at h
  omega
theorem gSym_sz {s : ByteArray} (h : gSym s.data.toList = true) : s.size ≤ 20 := by
  have := gSym_le h
  rw [← bs_length]
  exact this
theorem txV_le {v : V} (h : gVal v = true) (hn : numOk v.num) : (txV v).length ≤ 21 := by
  unfold txV
  split
  · rename_i hk
    have hv : gVal v = ((v.kind == 0 && v.sym.toList.isEmpty) || (v.kind == 1 && (v.num == 0 && gSym v.sym.data.toList))) := rfl
    rw [hv, hk] at h
    simp at h
    have := gSym_le h.2
    have e : bsOf v.sym = v.sym.data.toList := rfl
    rw [e]
    omega
  · exact Lib.itoa_length_le _ hn.1 hn.2
theorem txO_le {t : Tm} (h : operandOk t = true) (hn : numOk t.val.num) : (txO t).length ≤ 21 := by
  unfold txO
  unfold operandOk at h
  cases hv : isE t.var
  · rw [hv] at h
    simp at h
    have := gSym_sz h.1
    simp [bs_length]
    omega
  · rw [hv] at h
    have hb : gVal t.val = true := by
      cases hg : gVal t.val
      · rw [hg] at h
        simp at h
        have h1 : t.var.toList.isEmpty = true := hv
        have h2 : t.var.data.toList.length = 0 := by
          have h3 : t.var.data.toList = t.var.toList := (ByteArray.toList_eq _).symm
          rw [h3]
          simpa using h1
        have h4 := h.1
        unfold gSym at h4
        simp [h2] at h4
      · rfl
    simpa using txV_le hb hn
theorem opTx_le (k : Nat) : (opTx.getD k []).length ≤ 2 := by
  rcases k with _ | _ | _ | _ | _ | _ | k <;> simp [opTx]
theorem txT_le {t : Tm} (h : gTm t = true) (hn : numOk t.val.num) : (txT t).length ≤ 30 := by
  unfold gTm at h
  unfold txT
  by_cases k1 : t.kind = 1
  · simp [k1] at h
    simp [k1]
    have := txV_le h.2.2 hn
    omega
  by_cases k2 : t.kind = 2
  · simp [k2] at h
    simp [k2]
    have := gSym_sz h.2.1
    simp [bs_length]
    omega
  by_cases k3 : t.kind = 3
  · simp [k3] at h
    simp [k3]
    have := txO_le h.2.2 hn
    have := opTx_le (t.op.toNat - 1)
    simp at this
    omega
  · simp [k1, k2, k3]
end Go.Proofs.YtgkoiojelckblaaGreatDoor
