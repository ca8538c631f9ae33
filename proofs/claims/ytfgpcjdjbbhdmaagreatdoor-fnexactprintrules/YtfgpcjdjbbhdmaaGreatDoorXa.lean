/-
  OUR OWN TEXT. Tx1, Ms1, Tx2, one behind the other.
-/
import Derived.Test.YtfgpcjdjbbhdmaaGreatDoorZc
import Derived.Lib.Join
import Derived.Lib.ItoaLen
import Derived.Laws.Strings
namespace Go.Proofs.YtfgpcjdjbbhdmaaGreatDoor

abbrev Bs := List UInt8
def bsOf (s : ByteArray) : Bs := s.data.toList
def mkS (l : Bs) : ByteArray := ⟨l.toArray⟩
theorem bs_mkS (l : Bs) : bsOf (mkS l) = l := rfl
theorem mkS_bs (s : ByteArray) : mkS (bsOf s) = s := by
  cases s
  simp [mkS, bsOf]
theorem mkS_app (a b : Bs) : mkS a ++ mkS b = mkS (a ++ b) := by
  apply ByteArray.ext
  simp [mkS, ByteArray.data_append]
theorem app_mkS (s : ByteArray) (b : Bs) : s ++ mkS b = mkS (bsOf s ++ b) := by rw [← mkS_app, mkS_bs]
theorem mkS_app' (s : ByteArray) (b : Bs) : mkS b ++ s = mkS (b ++ bsOf s) := by rw [← mkS_app, mkS_bs]
theorem mkS_size (l : Bs) : (mkS l).size = l.length := by simp [mkS, ByteArray.size]
theorem bs_length (s : ByteArray) : (bsOf s).length = s.size := Array.length_toList
theorem bs_app (s t : ByteArray) : bsOf (s ++ t) = bsOf s ++ bsOf t := by
  unfold bsOf
  rw [ByteArray.data_append, Array.toList_append]
theorem mkS_eq {s : ByteArray} {l : Bs} (h : bsOf s = l) : s = mkS l := by rw [← h, mkS_bs]

def txV (v : V) : Bs := if v.kind = 1 then bsOf v.sym else Lib.itoa v.num
def opTx : List Bs := [[61], [33, 61], [60], [62], [60, 61], [62, 61]]
def txO (t : Tm) : Bs := if isE t.var then txV t.val else 63 :: bsOf t.var
def txT (t : Tm) : Bs :=
  if t.kind = 1 then txV t.val
  else if t.kind = 2 then 63 :: bsOf t.var
  else if t.kind = 3 then 40 :: (opTx.getD (t.op.toNat - 1) [] ++ 32 :: (txO t ++ [41]))
  else [95]
def txE : Nat → List Ex → Nat → Bs
  | 0, _, _ => []
  | n + 1, es, i => match es[i]? with
    | none => []
    | some e =>
      if e.kind = 1 then 63 :: bsOf e.var
      else if e.kind = 2 then 40 :: UInt8.ofNat e.op.toNat :: 32 :: (txE n es e.a.toNat ++ 32 :: (txE n es e.b.toNat ++ [41]))
      else txV e.val
def txArgs (es : List Ex) (l : List Int) : Bs := l.flatMap fun x => 32 :: txE 60 es x.toNat
def addB : Bs := [97, 100, 100]
def dropB : Bs := [100, 114, 111, 112]
def modB : Bs := [109, 111, 100]
def haltB : Bs := [104, 97, 108, 116]
def ruleB : Bs := [40, 114, 117, 108, 101, 32]
def notX : Bs := [110, 111, 116]
def lineB : Bs := [10, 32, 32]
def thenB : Bs := [61, 62]
def txHead (a : Ac) : Bs :=
  if a.kind = 1 then addB ++ 32 :: bsOf a.cls
  else if a.kind = 2 then dropB ++ 32 :: Lib.itoa a.k
  else if a.kind = 3 then modB ++ 32 :: Lib.itoa a.k
  else haltB
def txA (es : List Ex) (a : Ac) : Bs := 40 :: (txHead a ++ (txArgs es a.args ++ [41]))
def txTs (l : List Tm) : Bs := l.flatMap fun t => 32 :: txT t
def txP (p : Pt) : Bs := 40 :: ((if p.neg then notX ++ [32] else []) ++ (bsOf p.cls ++ (txTs p.terms ++ [41])))
def txPs (l : List Pt) : Bs := l.flatMap fun p => lineB ++ txP p
def txAs (es : List Ex) (l : List Ac) : Bs := l.flatMap fun a => lineB ++ txA es a
def txHd (r : Ru) : Bs := ruleB ++ (bsOf r.name ++ 32 :: Lib.itoa r.sal)
def txR (r : Ru) : Bs := txHd r ++ (txPs r.pats ++ (lineB ++ (thenB ++ (txAs r.exprs r.acts ++ [41, 10]))))
def txRs (l : List Ru) : Bs := l.flatMap txR
def prnt (l : List Ru) : Bs := if (chk l).1 = 0 then txRs l else []

theorem joinTail_eq (sep : Bs) (r : List Bs) : Lib.joinTail sep r = r.flatMap (fun x => sep ++ x) := by
  unfold Lib.joinTail
  rw [List.flatMap_def]
theorem join_args (x y : Bs) (es : List Ex) (l : List Int) : Lib.join (x :: y :: l.map fun i => txE 60 es i.toNat) [32] = x ++ 32 :: (y ++ txArgs es l) := by
  rw [Lib.join_cons, joinTail_eq]
  simp [txArgs, List.flatMap_map]
theorem join_two (x y : Bs) : Lib.join [x, y] [32] = x ++ 32 :: y := by
  rw [Lib.join_cons, joinTail_eq]
  simp
theorem join_three (x y z : Bs) : Lib.join [x, y, z] [32] = x ++ 32 :: (y ++ 32 :: z) := by
  rw [Lib.join_cons, joinTail_eq]
  simp
theorem join_terms (x : Bs) (l : List Tm) : Lib.join (x :: l.map txT) [32] = x ++ txTs l := by
  rw [Lib.join_cons, joinTail_eq]
  simp [txTs, List.flatMap_map]
theorem join_terms2 (x y : Bs) (l : List Tm) : Lib.join (x :: y :: l.map txT) [32] = x ++ 32 :: (y ++ txTs l) := by
  rw [Lib.join_cons, joinTail_eq]
  simp [txTs, List.flatMap_map]
theorem join_lines (h : Bs) (ps : List Pt) (es : List Ex) (acs : List Ac) : Lib.join (h :: (ps.map txP ++ thenB :: acs.map (txA es))) lineB = h ++ (txPs ps ++ (lineB ++ (thenB ++ txAs es acs))) := by
  rw [Lib.join_cons, joinTail_eq]
  simp [txPs, txAs, List.flatMap_map]

theorem txE_one (n : Nat) (es : List Ex) (i : Nat) (e : Ex) (h : es[i]? = some e) : txE (n + 1) es i = if e.kind = 1 then 63 :: bsOf e.var else if e.kind = 2 then 40 :: UInt8.ofNat e.op.toNat :: 32 :: (txE n es e.a.toNat ++ 32 :: (txE n es e.b.toNat ++ [41])) else txV e.val := by
  rw [txE, h]

def numOk (n : Int) : Prop := -9223372036854775808 ≤ n ∧ n ≤ 9223372036854775807
theorem gSym_le {l : Bs} (h : gSym l = true) : l.length ≤ 20 := by
  unfold gSym at h
  simp only [Bool.and_eq_true, decide_eq_true_eq] at h
  omega
theorem gSym_sz {s : ByteArray} (h : gSym s.data.toList = true) : s.size ≤ 20 := by
  have := gSym_le h
  rw [← bs_length]
  exact this
theorem txV_le {v : V} (h : gVal v = true) (hn : numOk v.num) : (txV v).length ≤ 21 := by
  unfold txV
  split
  · rename_i hk
    have hv : gVal v = ((v.kind == 0 && v.sym.toList.isEmpty) || (v.kind == 1 && (v.num == 0 && gSym v.sym.data.toList))) := rfl
    rw [hv, hk] at h
    simp at h
    have := gSym_le h.2
    have e : bsOf v.sym = v.sym.data.toList := rfl
    rw [e]
    omega
  · exact Lib.itoa_length_le _ hn.1 hn.2
theorem txO_le {t : Tm} (h : operandOk t = true) (hn : numOk t.val.num) : (txO t).length ≤ 21 := by
  unfold txO
  unfold operandOk at h
  cases hv : isE t.var
  · rw [hv] at h
    simp at h
    have := gSym_sz h.1
    simp [bs_length]
    omega
  · rw [hv] at h
    have hb : gVal t.val = true := by
      cases hg : gVal t.val
      · rw [hg] at h
        simp at h
        have h1 : t.var.toList.isEmpty = true := hv
        have h2 : t.var.data.toList.length = 0 := by
          have h3 : t.var.data.toList = t.var.toList := (ByteArray.toList_eq _).symm
          rw [h3]
          simpa using h1
        have h4 := h.1
        unfold gSym at h4
        simp [h2] at h4
      · rfl
    simpa using txV_le hb hn
theorem opTx_le (k : Nat) : (opTx.getD k []).length ≤ 2 := by
  rcases k with _ | _ | _ | _ | _ | _ | k <;> simp [opTx]
theorem txT_le {t : Tm} (h : gTm t = true) (hn : numOk t.val.num) : (txT t).length ≤ 30 := by
  unfold gTm at h
  unfold txT
  by_cases k1 : t.kind = 1
  · simp [k1] at h
    simp [k1]
    have := txV_le h.2.2 hn
    omega
  by_cases k2 : t.kind = 2
  · simp [k2] at h
    simp [k2]
    have := gSym_sz h.2.1
    simp [bs_length]
    omega
  by_cases k3 : t.kind = 3
  · simp [k3] at h
    simp [k3]
    have := txO_le h.2.2 hn
    have := opTx_le (t.op.toNat - 1)
    simp at this
    omega
  · simp [k1, k2, k3]
end Go.Proofs.YtfgpcjdjbbhdmaaGreatDoor

namespace Go.Proofs.YtfgpcjdjbbhdmaaGreatDoor

def isV (t : Tm) : Bool := t.kind == 2
/-- The variables that a pattern's terms bind. -/
def varsOf (ts : List Tm) : List ByteArray := (ts.filter isV).map Tm.var
/-- The terms that look at what is known: the program's question, the model's question. -/
def jnI (known : List ByteArray) (t : Tm) : Bool := memB t.var known
def jnS (known : List ByteArray) (t : Tm) : Bool := !isE t.var && memB t.var known
def nextK (p : Pt) (known : List ByteArray) : List ByteArray := if p.neg then known else known ++ varsOf p.terms
def joinsGo (f : List ByteArray → Tm → Bool) : List Pt → List ByteArray → Nat
  | [], _ => 0
  | p :: r, known => p.terms.countP (f known) + joinsGo f r (nextK p known)
def knownGo : List Pt → List ByteArray → List ByteArray
  | [], known => known
  | p :: r, known => knownGo r (nextK p known)
def joinsOf (r : Ru) : Nat := joinsGo jnI r.pats []

theorem knownGo_snoc (p : Pt) : ∀ (l : List Pt) (known : List ByteArray), knownGo (l ++ [p]) known = nextK p (knownGo l known)
  | [], _ => rfl
  | q :: r, known => knownGo_snoc p r (nextK q known)
theorem joinsGo_snoc (f : List ByteArray → Tm → Bool) (p : Pt) : ∀ (l : List Pt) (known : List ByteArray), joinsGo f (l ++ [p]) known = joinsGo f l known + p.terms.countP (f (knownGo l known))
  | [], known => by simp [joinsGo, knownGo]
  | q :: r, known => by
    simp only [List.cons_append, joinsGo, knownGo]
    rw [joinsGo_snoc f p r (nextK q known)]
    omega

def FullK (known : List ByteArray) : Prop := ∀ s ∈ known, isE s = false
theorem gSym_full {s : ByteArray} (h : gSym s.data.toList = true) : isE s = false := by
  unfold gSym at h
  simp only [Bool.and_eq_true, decide_eq_true_eq] at h
  have h1 := h.1.1.1
  unfold isE
  have h2 : s.toList = s.data.toList := Go.ByteArray.toList_eq s
  rw [h2]
  cases hs : s.data.toList with
  | nil => rw [hs] at h1; simp at h1
  | cons x r => rfl
theorem jn_same {known : List ByteArray} (h : FullK known) (t : Tm) : jnS known t = jnI known t := by
  unfold jnS jnI
  cases he : isE t.var
  · simp
  · have : memB t.var known = false := by
      unfold memB
      rw [List.any_eq_false]
      intro y hy hd
      have hd' : y = t.var := by simpa using hd
      have h1 := h y hy
      rw [hd', he] at h1
      cases h1
    simp [this]
theorem full_next {p : Pt} {known : List ByteArray} (hp : p.terms.all gTm = true) (h : FullK known) : FullK (nextK p known) := by
  unfold nextK
  split
  · exact h
  · intro s hs
    rcases List.mem_append.1 hs with hs | hs
    · exact h s hs
    · unfold varsOf at hs
      obtain ⟨t, ht, rfl⟩ := List.mem_map.1 hs
      obtain ⟨ht1, ht2⟩ := List.mem_filter.1 ht
      have hg := List.all_eq_true.1 hp t ht1
      unfold isV at ht2
      have hk : t.kind = 2 := by simpa using ht2
      unfold gTm at hg
      simp only [hk] at hg
      rw [if_neg (by decide), if_neg (by decide), if_pos (by decide)] at hg
      simp only [Bool.and_eq_true] at hg
      exact gSym_full hg.2.1
theorem joins_same : ∀ (l : List Pt) (known : List ByteArray), (∀ p ∈ l, p.terms.all gTm = true) → FullK known → joinsGo jnS l known = joinsGo jnI l known
  | [], _, _, _ => rfl
  | p :: r, known, h, hk => by
    have h1 : jnS known = jnI known := funext fun t => jn_same hk t
    simp only [joinsGo]
    rw [joins_same r (nextK p known) (fun q hq => h q (List.mem_cons_of_mem _ hq)) (full_next (h p (by simp)) hk), h1]

/-- Checked rules have right patterns, at most six. -/
theorem firstBad_noneM {α : Type} (f : α → Bool) : ∀ (l : List α) (k : Nat), firstBad f l k = none → ∀ x ∈ l, f x = true
  | [], _, _, x, hx => by simp at hx
  | y :: r, k, h, x, hx => by
    unfold firstBad at h
    cases hy : f y
    · rw [hy] at h
      simp at h
    · rw [hy] at h
      simp only [if_true] at h
      rcases List.mem_cons.1 hx with rfl | hx
      · exact hy
      · exact firstBad_noneM f r (k + 1) h x hx
theorem shape_pats {r : Ru} (h : shape r = none) : r.pats.length ≤ 6 ∧ ∀ p ∈ r.pats, gPt p = true := by
  unfold shape at h
  split at h
  · rename_i hh
    simp only [headOk, Bool.and_eq_true, decide_eq_true_eq] at hh
    refine ⟨hh.2.1, ?_⟩
    cases hb : firstBad gPt r.pats 1 with
    | some i => rw [hb] at h; cases h
    | none => exact firstBad_noneM gPt r.pats 1 hb
  · cases h
theorem chk1_shape {pre : List Ru} {r : Ru} (h : (chk1 pre r).1 = 0) : shape r = none ∧ positives r.pats ≤ 3 := by
  unfold chk1 at h
  cases hs : shape r with
  | some i => rw [hs] at h; simp at h
  | none =>
    refine ⟨rfl, ?_⟩
    rw [hs] at h
    simp only at h
    split at h
    · simp at h
    · split at h
      · rename_i hp
        exact hp.2
      · simp at h
theorem chkGo_each : ∀ (l pre : List Ru) (k : Nat), (chkGo pre l k).1 = 0 → ∀ r ∈ l, shape r = none ∧ positives r.pats ≤ 3
  | [], _, _, _, r, hr => by simp at hr
  | q :: s, pre, k, h, r, hr => by
    unfold chkGo at h
    split at h
    · rename_i h0
      rcases List.mem_cons.1 hr with rfl | hr
      · exact chk1_shape h0
      · exact chkGo_each s _ _ h r hr
    · rename_i h0
      exact absurd h h0
theorem chk_each {rs : List Ru} (h : (chk rs).1 = 0) : rs.length ≤ 16 ∧ ∀ r ∈ rs, shape r = none ∧ positives r.pats ≤ 3 := by
  unfold chk at h
  split at h
  · rename_i hl
    exact ⟨hl, chkGo_each rs [] 0 h⟩
  · simp at h
theorem chk_joins {rs : List Ru} (h : (chk rs).1 = 0) {r : Ru} (hr : r ∈ rs) : joinsGo jnS r.pats [] = joinsOf r := by
  refine joins_same r.pats [] (fun p hp => ?_) (fun s hs => by simp at hs)
  have := (shape_pats ((chk_each h).2 r hr).1).2 p hp
  simp only [gPt, Bool.and_eq_true] at this
  exact this.2.2
theorem countP_le' {α : Type} (f : α → Bool) (l : List α) : l.countP f ≤ l.length := List.countP_le_length
theorem joinsGo_le (f : List ByteArray → Tm → Bool) : ∀ (l : List Pt) (known : List ByteArray), (∀ p ∈ l, p.terms.length ≤ 6) → joinsGo f l known ≤ 6 * l.length
  | [], _, _ => Nat.zero_le _
  | p :: r, known, h => by
    have h1 := joinsGo_le f r (nextK p known) (fun q hq => h q (List.mem_cons_of_mem _ hq))
    have h2 := countP_le' (f known) p.terms
    have h3 := h p (by simp)
    simp only [joinsGo, List.length_cons]
    omega
theorem chk_small {rs : List Ru} (h : (chk rs).1 = 0) {r : Ru} (hr : r ∈ rs) : r.pats.length ≤ 6 ∧ (∀ p ∈ r.pats, p.terms.length ≤ 6) ∧ positives r.pats ≤ 3 := by
  obtain ⟨h1, h2⟩ := (chk_each h).2 r hr
  obtain ⟨h3, h4⟩ := shape_pats h1
  refine ⟨h3, fun p hp => ?_, h2⟩
  have := h4 p hp
  simp only [gPt, Bool.and_eq_true, decide_eq_true_eq] at this
  exact this.2.1

def byCost (r : Ru) : Int := if positives r.pats * positives r.pats * positives r.pats + 2 * (r.pats.length - positives r.pats) ≤ 4 + 2 * joinsOf r then 0 else 1
/-- What a way tells of rule number i. -/
def modeOf (how : Int) (i : Nat) (r : Ru) : Int :=
  if how = 1 then 1 else if how = 2 then byCost r else if how = 3 then (i : Int) % 2 else 0
def modesL (how : Int) (rs : List Ru) : List Int := rs.mapIdx (modeOf how)
def modesOf (rs : List Ru) (how : Int) : List Int := if 0 ≤ how ∧ how ≤ 3 ∧ (chk rs).1 = 0 then modesL how rs else []
theorem modesL_len (how : Int) (rs : List Ru) : (modesL how rs).length = rs.length := by simp [modesL]
theorem modesL_snoc {how : Int} {rs : List Ru} {k : Nat} {r : Ru} (h : rs[k]? = some r) : modesL how (rs.take (k + 1)) = modesL how (rs.take k) ++ [modeOf how k r] := by
  have hk : k < rs.length := (List.getElem?_eq_some_iff.1 h).1
  unfold modesL
  have e : rs.take (k + 1) = rs.take k ++ [r] := by
    obtain ⟨hk', rfl⟩ := List.getElem?_eq_some_iff.1 h
    exact List.take_succ_eq_append_getElem hk'
  rw [e, List.mapIdx_append]
  simp [Nat.min_eq_left (Nat.le_of_lt hk)]
theorem modesOf_len (rs : List Ru) (how : Int) : (modesOf rs how).length ≤ rs.length := by
  unfold modesOf
  split
  · rw [modesL_len]; exact Nat.le_refl _
  · exact Nat.zero_le _
theorem modesOf_no {rs : List Ru} {how : Int} (h : ¬ (0 ≤ how ∧ how ≤ 3 ∧ (chk rs).1 = 0)) : modesOf rs how = [] := if_neg h
theorem modesOf_yes {rs : List Ru} {how : Int} (h : 0 ≤ how ∧ how ≤ 3 ∧ (chk rs).1 = 0) : modesOf rs how = modesL how rs := if_pos h
end Go.Proofs.YtfgpcjdjbbhdmaaGreatDoor

namespace Go.Proofs.YtfgpcjdjbbhdmaaGreatDoor

/-- Numbers that a machine has. -/
def RuN (r : Ru) : Prop := numOk r.sal ∧ (∀ p ∈ r.pats, ∀ t ∈ p.terms, numOk t.val.num) ∧ ∀ e ∈ r.exprs, numOk e.val.num
/-- What the texts ask of exprs. -/
def ExT (es : List Ex) (S : List Sp) : Prop := es.length ≤ 60 ∧ Spans es S ∧ S.length = es.length ∧ ∀ e ∈ es, numOk e.val.num
def AcT (es : List Ex) (a : Ac) : Prop := fieldsOk a = true ∧ a.args.length ≤ 6 ∧ ∀ v ∈ a.args, 0 ≤ v ∧ v < (es.length : Int)
def PtT (p : Pt) : Prop := gPt p = true ∧ ∀ t ∈ p.terms, numOk t.val.num
def RuT (r : Ru) : Prop := r.name.size ≤ 20 ∧ numOk r.sal ∧ r.pats.length ≤ 6 ∧ (∀ p ∈ r.pats, PtT p) ∧ r.acts.length ≤ 8 ∧ (∃ S, ExT r.exprs S) ∧ ∀ a ∈ r.acts, AcT r.exprs a

theorem argsGo_in {S : List Sp} : ∀ {l : List Int} {nx n : Nat}, argsGo S l nx = some n → ∀ v ∈ l, 0 ≤ v ∧ v < (S.length : Int)
  | [], _, _, _, v, hv => by simp at hv
  | x :: r, nx, n, h, v, hv => by
    unfold argsGo at h
    split at h
    · rename_i hc
      simp only [Bool.and_eq_true, decide_eq_true_eq] at hc
      rcases List.mem_cons.1 hv with rfl | hm
      · exact ⟨hc.1, hc.2.1⟩
      · exact argsGo_in h v hm
    · cases h
theorem actsGo_in {S : List Sp} : ∀ {l : List Ac} {nx k : Nat}, actsGo S l nx k = none → ∀ y ∈ l, fieldsOk y = true ∧ y.args.length ≤ 6 ∧ ∀ v ∈ y.args, 0 ≤ v ∧ v < (S.length : Int)
  | [], _, _, _, y, hy => by simp at hy
  | a :: r, nx, k, h, y, hy => by
    unfold actsGo at h
    cases hg : gAc S a nx with
    | none => rw [hg] at h; cases h
    | some n' =>
      rw [hg] at h
      rcases List.mem_cons.1 hy with rfl | hm
      · unfold gAc at hg
        split at hg
        · rename_i hc
          simp only [Bool.and_eq_true, decide_eq_true_eq] at hc
          exact ⟨hc.1, hc.2, argsGo_in hg⟩
        · cases hg
      · exact actsGo_in h y hm
theorem RuT.of {r : Ru} (h : shape r = none) (hn : RuN r) : RuT r := by
  obtain ⟨hp6, hpt⟩ := shape_pats h
  unfold shape at h
  split at h
  · rename_i hh
    simp only [headOk, Bool.and_eq_true, decide_eq_true_eq] at hh
    split at h
    · cases h
    · split at h
      · cases h
      · rename_i hlt
        have hS := (spansGo_spans (es := r.exprs) (l := r.exprs) (Spans.nil _) rfl).1
        have hfull : (spansGo [] r.exprs).length = r.exprs.length := by have := hS.1; omega
        have hf := actsGo_in h
        refine ⟨gSym_sz hh.1, hn.1, hp6, fun p hp => ⟨hpt p hp, hn.2.1 p hp⟩, hh.2.2.1, ⟨_, hh.2.2.2, hS, hfull, hn.2.2⟩, fun a ha => ⟨(hf a ha).1, (hf a ha).2.1, fun v hv => ?_⟩⟩
        have := (hf a ha).2.2 v hv
        rw [hfull] at this
        exact this
  · cases h

theorem spanT_leaf {S : List Sp} {e : Ex} {s : Sp} (h : spanOf S e = some s) (hk : e.kind ≠ 2) : (e.kind = 0 ∧ gVal e.val = true) ∨ (e.kind = 1 ∧ gSym e.var.data.toList = true) := by
  unfold spanOf at h
  by_cases k0 : e.kind = 0
  · simp [k0] at h
    exact .inl ⟨k0, h.1.2.2⟩
  by_cases k1 : e.kind = 1
  · simp [k1] at h
    exact .inr ⟨k1, h.1.2.1⟩
  · simp [k0, k1, hk] at h
theorem spanT_op {S : List Sp} {e : Ex} {s : Sp} (h : spanOf S e = some s) (hk : e.kind = 2) : isAr e.op = true := by
  unfold spanOf at h
  simp only [hk] at h
  rw [if_neg (by decide), if_neg (by decide), if_pos (by decide)] at h
  split at h
  · rename_i ho
    simp only [opOk, Bool.and_eq_true] at ho
    exact ho.1
  · cases h
theorem ExT.kind {es : List Ex} {S : List Sp} (h : ExT es S) {i : Nat} {e : Ex} (he : es[i]? = some e) : (e.kind = 0 ∧ gVal e.val = true) ∨ (e.kind = 1 ∧ gSym e.var.data.toList = true) ∨ (e.kind = 2 ∧ isAr e.op = true ∧ ∃ a b : Nat, e.a = (a : Int) ∧ e.b = (b : Int) ∧ a < i ∧ b < i) := by
  have hi : i < S.length := by rw [h.2.2.1]; exact (List.getElem?_eq_some_iff.1 he).1
  obtain ⟨s, hs⟩ : ∃ s, S[i]? = some s := ⟨S[i], by simp [hi]⟩
  by_cases hk : e.kind = 2
  · obtain ⟨a, b, sa, sb, ha, hb, h1, h2, _⟩ := h.2.1.op hs he hk
    exact .inr (.inr ⟨hk, spanT_op (h.2.1.2 i s e hs he) hk, a, b, ha, hb, by omega, by omega⟩)
  · rcases spanT_leaf (h.2.1.2 i s e hs he) hk with h | h
    · exact .inl h
    · exact .inr (.inl h)
theorem txE_le {es : List Ex} {S : List Sp} (h : ExT es S) : ∀ (n i : Nat) (s : Sp), S[i]? = some s → (txE n es i).length + 5 ≤ 40 * 2 ^ s.2
  | 0, i, s, _ => by
    have : 0 < 2 ^ s.2 := Nat.two_pow_pos _
    simp [txE]
    omega
  | n + 1, i, s, hs => by
    have hi : i < es.length := by rw [← h.2.2.1]; exact (List.getElem?_eq_some_iff.1 hs).1
    obtain ⟨e, he⟩ : ∃ e, es[i]? = some e := ⟨es[i], by simp [hi]⟩
    have hp : 0 < 2 ^ s.2 := Nat.two_pow_pos _
    rw [txE_one n es i e he]
    by_cases hk : e.kind = 2
    · obtain ⟨a, b, sa, sb, ha, hb, h1, h2, h3, h4, rfl⟩ := h.2.1.op hs he hk
      rw [if_neg (by omega), if_pos hk, ha, hb]
      have e1 := txE_le h n a sa h3
      have e2 := txE_le h n b sb h4
      have p1 : 2 ^ sa.2 ≤ 2 ^ max sa.2 sb.2 := Nat.pow_le_pow_right (by omega) (by omega)
      have p2 : 2 ^ sb.2 ≤ 2 ^ max sa.2 sb.2 := Nat.pow_le_pow_right (by omega) (by omega)
      have p3 : 2 ^ (1 + max sa.2 sb.2) = 2 * 2 ^ max sa.2 sb.2 := by rw [Nat.add_comm, Nat.pow_succ, Nat.mul_comm]
      simp only [List.length_cons, List.length_append, List.length_nil, Int.toNat_natCast]
      omega
    · rcases h.kind he with ⟨k, hv⟩ | ⟨k, hv⟩ | ⟨k, _⟩
      · rw [if_neg (by omega), if_neg hk]
        have := txV_le hv (h.2.2.2 e (List.mem_of_getElem? he))
        omega
      · rw [if_pos k]
        have := gSym_sz hv
        simp only [List.length_cons, bs_length]
        omega
      · exact absurd k hk
theorem txE_short {es : List Ex} {S : List Sp} (h : ExT es S) (n i : Nat) (hi : i < es.length) : (txE n es i).length ≤ 41943040 := by
  have hi' : i < S.length := by rw [h.2.2.1]; exact hi
  have hs : S[i]? = some S[i] := by simp [hi']
  have h1 := txE_le h n i _ hs
  have h2 := h.2.1.depth_le i _ hs
  have h3 : 2 ^ (S[i]).2 ≤ 2 ^ 20 := Nat.pow_le_pow_right (by omega) h2
  omega

theorem flat_le {α : Type} {f : α → Bs} {N : Nat} : ∀ {l : List α}, (∀ x ∈ l, (f x).length ≤ N) → (l.flatMap f).length ≤ N * l.length
  | [], _ => by simp
  | x :: r, h => by
    have h1 := flat_le (l := r) (fun y hy => h y (by simp [hy]))
    have h2 := h x (by simp)
    rw [List.flatMap_cons, List.length_append, List.length_cons, Nat.mul_succ]
    omega
theorem mul_le {N a b : Nat} (h : a ≤ b) : N * a ≤ N * b := Nat.mul_le_mul_left _ h
theorem txArgs_le {es : List Ex} {S : List Sp} (h : ExT es S) {l : List Int} (hl : l.length ≤ 6) (hv : ∀ v ∈ l, 0 ≤ v ∧ v < (es.length : Int)) : (txArgs es l).length ≤ 300000000 := by
  have := flat_le (f := fun x : Int => 32 :: txE 60 es x.toNat) (N := 41943041) (l := l) (fun x hx => by
    have h1 := hv x hx
    have := txE_short h 60 x.toNat (by omega)
    simp only [List.length_cons]
    omega)
  unfold txArgs
  omega
theorem kOk_num {k : Int} (h : kOk k = true) : numOk k := by
  simp only [kOk, Bool.and_eq_true, decide_eq_true_eq] at h
  exact ⟨by omega, by omega⟩
theorem gCls_sz {s : ByteArray} (h : gCls s = true) : s.size ≤ 20 := by
  simp only [gCls, Bool.and_eq_true] at h
  exact gSym_sz h.1
theorem AcT.cases {es : List Ex} {a : Ac} (h : AcT es a) : (a.kind = 1 ∧ a.cls.size ≤ 20) ∨ (a.kind = 2 ∧ numOk a.k ∧ a.args = []) ∨ (a.kind = 3 ∧ numOk a.k) ∨ (a.kind = 4 ∧ a.args = []) := by
  have hf := h.1
  unfold fieldsOk at hf
  by_cases k1 : a.kind = 1
  · simp [k1] at hf
    exact .inl ⟨k1, gCls_sz hf.1⟩
  by_cases k2 : a.kind = 2
  · simp [k2] at hf
    exact .inr (.inl ⟨k2, kOk_num hf.1.2, hf.2⟩)
  by_cases k3 : a.kind = 3
  · simp [k3] at hf
    exact .inr (.inr (.inl ⟨k3, kOk_num hf.2⟩))
  by_cases k4 : a.kind = 4
  · simp [k4] at hf
    exact .inr (.inr (.inr ⟨k4, hf.2.2⟩))
  · simp [k1, k2, k3, k4] at hf
theorem txHead_le {es : List Ex} {a : Ac} (h : AcT es a) : (txHead a).length ≤ 30 := by
  unfold txHead
  rcases h.cases with ⟨k, hs⟩ | ⟨k, hk, _⟩ | ⟨k, hk⟩ | ⟨k, _⟩
  · simp [k, addB, bs_length]
    omega
  · have := Lib.itoa_length_le _ hk.1 hk.2
    simp [k, dropB]
    omega
  · have := Lib.itoa_length_le _ hk.1 hk.2
    simp [k, modB]
    omega
  · simp [k, haltB]
theorem txA_le {es : List Ex} {S : List Sp} (h : ExT es S) {a : Ac} (ha : AcT es a) : (txA es a).length ≤ 300000040 := by
  have h1 := txHead_le ha
  have h2 := txArgs_le h ha.2.1 ha.2.2
  unfold txA
  simp only [List.length_cons, List.length_append, List.length_nil]
  omega
theorem txTs_le {l : List Tm} (hl : l.length ≤ 6) (h : ∀ t ∈ l, gTm t = true ∧ numOk t.val.num) : (txTs l).length ≤ 200 := by
  have := flat_le (f := fun t : Tm => 32 :: txT t) (N := 31) (l := l) (fun x hx => by
    have := txT_le (h x hx).1 (h x hx).2
    simp only [List.length_cons]
    omega)
  unfold txTs
  omega
theorem PtT.get {p : Pt} (h : PtT p) : p.cls.size ≤ 20 ∧ p.terms.length ≤ 6 ∧ ∀ t ∈ p.terms, gTm t = true ∧ numOk t.val.num := by
  have hg := h.1
  simp only [gPt, Bool.and_eq_true, decide_eq_true_eq, List.all_eq_true] at hg
  exact ⟨gCls_sz hg.1, hg.2.1, fun t ht => ⟨hg.2.2 t ht, h.2 t ht⟩⟩
theorem txP_le {p : Pt} (h : PtT p) : (txP p).length ≤ 240 := by
  obtain ⟨h1, h2, h3⟩ := h.get
  have := txTs_le h2 h3
  unfold txP
  simp only [List.length_cons, List.length_append, List.length_nil, bs_length]
  split
  · simp [notX]
    omega
  · simp
    omega
theorem txPs_le {l : List Pt} (hl : l.length ≤ 6) (h : ∀ p ∈ l, PtT p) : (txPs l).length ≤ 2000 := by
  have := flat_le (f := fun p : Pt => lineB ++ txP p) (N := 243) (l := l) (fun x hx => by
    have := txP_le (h x hx)
    simp only [List.length_append, lineB, List.length_cons, List.length_nil]
    omega)
  unfold txPs
  omega
theorem txAs_le {es : List Ex} {S : List Sp} (h : ExT es S) {l : List Ac} (hl : l.length ≤ 8) (ha : ∀ a ∈ l, AcT es a) : (txAs es l).length ≤ 2500000000 := by
  have := flat_le (f := fun a : Ac => lineB ++ txA es a) (N := 300000043) (l := l) (fun x hx => by
    have := txA_le h (ha x hx)
    simp only [List.length_append, lineB, List.length_cons, List.length_nil]
    omega)
  unfold txAs
  omega
theorem txHd_le {r : Ru} (h : RuT r) : (txHd r).length ≤ 60 := by
  have := Lib.itoa_length_le _ h.2.1.1 h.2.1.2
  have := h.1
  unfold txHd
  simp only [List.length_append, List.length_cons, ruleB, List.length_nil, bs_length]
  omega
theorem txR_le {r : Ru} (h : RuT r) : (txR r).length ≤ 2600000000 := by
  have h1 := txHd_le h
  obtain ⟨_, _, h2, h3, h4, ⟨S, h5⟩, h6⟩ := h
  have := txPs_le h2 h3
  have := txAs_le h5 h4 h6
  unfold txR
  simp only [List.length_append, List.length_cons, lineB, thenB, List.length_nil]
  omega
theorem txRs_le {l : List Ru} (hl : l.length ≤ 16) (h : ∀ r ∈ l, RuT r) : (txRs l).length ≤ 42000000000 := by
  have := flat_le (f := txR) (N := 2600000000) (l := l) (fun x hx => txR_le (h x hx))
  unfold txRs
  omega
theorem flat_takeS {α : Type} (f : α → Bs) {l : List α} {k : Nat} {x : α} (h : l[k]? = some x) : (l.take (k + 1)).flatMap f = (l.take k).flatMap f ++ f x := by
  rw [List.take_add_one, h, List.flatMap_append]
  simp
theorem chk_T {rs : List Ru} (h : (chk rs).1 = 0) (hn : ∀ r ∈ rs, RuN r) : rs.length ≤ 16 ∧ ∀ r ∈ rs, RuT r := by
  obtain ⟨h1, h2⟩ := chk_each h
  exact ⟨h1, fun r hr => RuT.of (h2 r hr).1 (hn r hr)⟩
end Go.Proofs.YtfgpcjdjbbhdmaaGreatDoor
