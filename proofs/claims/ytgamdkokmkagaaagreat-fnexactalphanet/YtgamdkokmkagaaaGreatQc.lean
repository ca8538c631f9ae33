/-
  OUR OWN TEXT. Ms1, An0, An1, one behind the other.
-/
import Derived.Test.YtgamdkokmkagaaaGreatChkm
import Derived.Laws.Strings
import Derived.Test.YtgamdkokmkagaaaGreatQb
import Derived.Deep.RegionHeld3
import Derived.BigQuiet
namespace Go.Proofs.YtgamdkokmkagaaaGreat

def isV (t : Tm) : Bool := t.kind == 2
/-- The variables that a pattern's terms bind. -/
def varsOf (ts : List Tm) : List ByteArray := (ts.filter isV).map Tm.var
/-- The terms that look at what is known: the program's question, the model's question. -/
def jnI (known : List ByteArray) (t : Tm) : Bool := memB t.var known
def jnS (known : List ByteArray) (t : Tm) : Bool := !isE t.var && memB t.var known
def nextK (p : Pt) (known : List ByteArray) : List ByteArray := if p.neg then known else known ++ varsOf p.terms
def joinsGo (f : List ByteArray → Tm → Bool) : List Pt → List ByteArray → Nat
  | [], _ => 0
  | p :: r, known => p.terms.countP (f known) + joinsGo f r (nextK p known)
def knownGo : List Pt → List ByteArray → List ByteArray
  | [], known => known
  | p :: r, known => knownGo r (nextK p known)
def joinsOf (r : Ru) : Nat := joinsGo jnI r.pats []

theorem knownGo_snoc (p : Pt) : ∀ (l : List Pt) (known : List ByteArray), knownGo (l ++ [p]) known = nextK p (knownGo l known)
  | [], _ => rfl
  | q :: r, known => knownGo_snoc p r (nextK q known)
theorem joinsGo_snoc (f : List ByteArray → Tm → Bool) (p : Pt) : ∀ (l : List Pt) (known : List ByteArray), joinsGo f (l ++ [p]) known = joinsGo f l known + p.terms.countP (f (knownGo l known))
  | [], known => by simp [joinsGo, knownGo]
  | q :: r, known => by
    simp only [List.cons_append, joinsGo, knownGo]
    rw [joinsGo_snoc f p r (nextK q known)]
    omega

def FullK (known : List ByteArray) : Prop := ∀ s ∈ known, isE s = false
theorem gSym_full {s : ByteArray} (h : gSym s.data.toList = true) : isE s = false := by
  unfold gSym at h
  simp only [Bool.and_eq_true, decide_eq_true_eq] at h
  have h1 := h.1.1.1
  unfold isE
  have h2 : s.toList = s.data.toList := Go.ByteArray.toList_eq s
  rw [h2]
  cases hs : s.data.toList with
  | nil => rw [hs] at h1; simp at h1
  | cons x r => rfl
theorem jn_same {known : List ByteArray} (h : FullK known) (t : Tm) : jnS known t = jnI known t := by
  unfold jnS jnI
  cases he : isE t.var
  · simp
  · have : memB t.var known = false := by
      unfold memB
      rw [List.any_eq_false]
      intro y hy hd
      have hd' : y = t.var := by simpa using hd
      have h1 := h y hy
      rw [hd', he] at h1
      cases h1
    simp [this]
theorem full_next {p : Pt} {known : List ByteArray} (hp : p.terms.all gTm = true) (h : FullK known) : FullK (nextK p known) := by
  unfold nextK
  split
  · exact h
  · intro s hs
    rcases List.mem_append.1 hs with hs | hs
    · exact h s hs
    · unfold varsOf at hs
      obtain ⟨t, ht, rfl⟩ := List.mem_map.1 hs
      obtain ⟨ht1, ht2⟩ := List.mem_filter.1 ht
      have hg := List.all_eq_true.1 hp t ht1
      unfold isV at ht2
      have hk : t.kind = 2 := by simpa using ht2
      unfold gTm at hg
      simp only [hk] at hg
      rw [if_neg (by decide), if_neg (by decide), if_pos (by decide)] at hg
      simp only [Bool.and_eq_true] at hg
      exact gSym_full hg.2.1
theorem joins_same : ∀ (l : List Pt) (known : List ByteArray), (∀ p ∈ l, p.terms.all gTm = true) → FullK known → joinsGo jnS l known = joinsGo jnI l known
  | [], _, _, _ => rfl
  | p :: r, known, h, hk => by
    have h1 : jnS known = jnI known := funext fun t => jn_same hk t
    simp only [joinsGo]
    rw [joins_same r (nextK p known) (fun q hq => h q (List.mem_cons_of_mem _ hq)) (full_next (h p (by simp)) hk), h1]

/-- Checked rules have right patterns, at most six. -/
theorem firstBad_noneM {α : Type} (f : α → Bool) : ∀ (l : List α) (k : Nat), firstBad f l k = none → ∀ x ∈ l, f x = true
  | [], _, _, x, hx => by simp at hx
  | y :: r, k, h, x, hx => by
    unfold firstBad at h
    cases hy : f y
    · rw [hy] at h
      simp at h
    · rw [hy] at h
      simp only [if_true] at h
      rcases List.mem_cons.1 hx with rfl | hx
      · exact hy
      · exact firstBad_noneM f r (k + 1) h x hx
theorem shape_pats {r : Ru} (h : shape r = none) : r.pats.length ≤ 6 ∧ ∀ p ∈ r.pats, gPt p = true := by
  unfold shape at h
  split at h
  · rename_i hh
    simp only [headOk, Bool.and_eq_true, decide_eq_true_eq] at hh
    refine ⟨hh.2.1, ?_⟩
    cases hb : firstBad gPt r.pats 1 with
    | some i => rw [hb] at h; cases h
    | none => exact firstBad_noneM gPt r.pats 1 hb
  · cases h
theorem chk1_shape {pre : List Ru} {r : Ru} (h : (chk1 pre r).1 = 0) : shape r = none ∧ positives r.pats ≤ 3 := by
  unfold chk1 at h
  cases hs : shape r with
  | some i => rw [hs] at h; simp at h
  | none =>
    refine ⟨rfl, ?_⟩
    rw [hs] at h
    simp only at h
    split at h
    · simp at h
    · split at h
      · rename_i hp
        exact hp.2
      · simp at h
theorem chkGo_each : ∀ (l pre : List Ru) (k : Nat), (chkGo pre l k).1 = 0 → ∀ r ∈ l, shape r = none ∧ positives r.pats ≤ 3
  | [], _, _, _, r, hr => by simp at hr
  | q :: s, pre, k, h, r, hr => by
    unfold chkGo at h
    split at h
    · rename_i h0
      rcases List.mem_cons.1 hr with rfl | hr
      · exact chk1_shape h0
      · exact chkGo_each s _ _ h r hr
    · rename_i h0
      exact absurd h h0
theorem chk_each {rs : List Ru} (h : (chk rs).1 = 0) : rs.length ≤ 16 ∧ ∀ r ∈ rs, shape r = none ∧ positives r.pats ≤ 3 := by
  unfold chk at h
  split at h
  · rename_i hl
    exact ⟨hl, chkGo_each rs [] 0 h⟩
  · simp at h
theorem chk_joins {rs : List Ru} (h : (chk rs).1 = 0) {r : Ru} (hr : r ∈ rs) : joinsGo jnS r.pats [] = joinsOf r := by
  refine joins_same r.pats [] (fun p hp => ?_) (fun s hs => by simp at hs)
  have := (shape_pats ((chk_each h).2 r hr).1).2 p hp
  simp only [gPt, Bool.and_eq_true] at this
  exact this.2.2
theorem countP_le' {α : Type} (f : α → Bool) (l : List α) : l.countP f ≤ l.length := List.countP_le_length
theorem joinsGo_le (f : List ByteArray → Tm → Bool) : ∀ (l : List Pt) (known : List ByteArray), (∀ p ∈ l, p.terms.length ≤ 6) → joinsGo f l known ≤ 6 * l.length
  | [], _, _ => Nat.zero_le _
  | p :: r, known, h => by
    have h1 := joinsGo_le f r (nextK p known) (fun q hq => h q (List.mem_cons_of_mem _ hq))
    have h2 := countP_le' (f known) p.terms
    have h3 := h p (by simp)
    simp only [joinsGo, List.length_cons]
    omega
theorem chk_small {rs : List Ru} (h : (chk rs).1 = 0) {r : Ru} (hr : r ∈ rs) : r.pats.length ≤ 6 ∧ (∀ p ∈ r.pats, p.terms.length ≤ 6) ∧ positives r.pats ≤ 3 := by
  obtain ⟨h1, h2⟩ := (chk_each h).2 r hr
  obtain ⟨h3, h4⟩ := shape_pats h1
  refine ⟨h3, fun p hp => ?_, h2⟩
  have := h4 p hp
  simp only [gPt, Bool.and_eq_true, decide_eq_true_eq] at this
  exact this.2.1

def byCost (r : Ru) : Int := if positives r.pats * positives r.pats * positives r.pats + 2 * (r.pats.length - positives r.pats) ≤ 4 + 2 * joinsOf r then 0 else 1
/-- What a way tells of rule number i. -/
def modeOf (how : Int) (i : Nat) (r : Ru) : Int :=
  if how = 1 then 1 else if how = 2 then byCost r else if how = 3 then (i : Int) % 2 else 0
def modesL (how : Int) (rs : List Ru) : List Int := rs.mapIdx (modeOf how)
def modesOf (rs : List Ru) (how : Int) : List Int := if 0 ≤ how ∧ how ≤ 3 ∧ (chk rs).1 = 0 then modesL how rs else []
theorem modesL_len (how : Int) (rs : List Ru) : (modesL how rs).length = rs.length := by simp [modesL]
theorem modesL_snoc {how : Int} {rs : List Ru} {k : Nat} {r : Ru} (h : rs[k]? = some r) : modesL how (rs.take (k + 1)) = modesL how (rs.take k) ++ [modeOf how k r] := by
  have hk : k < rs.length := (List.getElem?_eq_some_iff.1 h).1
  unfold modesL
  have e : rs.take (k + 1) = rs.take k ++ [r] := by
    obtain ⟨hk', rfl⟩ := List.getElem?_eq_some_iff.1 h
    exact List.take_succ_eq_append_getElem hk'
  rw [e, List.mapIdx_append]
  simp [Nat.min_eq_left (Nat.le_of_lt hk)]
theorem modesOf_len (rs : List Ru) (how : Int) : (modesOf rs how).length ≤ rs.length := by
  unfold modesOf
  split
  · rw [modesL_len]; exact Nat.le_refl _
  · exact Nat.zero_le _
theorem modesOf_no {rs : List Ru} {how : Int} (h : ¬ (0 ≤ how ∧ how ≤ 3 ∧ (chk rs).1 = 0)) : modesOf rs how = [] := if_neg h
theorem modesOf_yes {rs : List Ru} {how : Int} (h : 0 ≤ how ∧ how ≤ 3 ∧ (chk rs).1 = 0) : modesOf rs how = modesL how rs := if_pos h
end Go.Proofs.YtgamdkokmkagaaaGreat

namespace Go.Proofs.YtgamdkokmkagaaaGreat

def Tt.tup (t : Tt) : Int × Int × Int × Int × Int × ByteArray := (t.slot, t.op, t.other, t.val.kind, t.val.num, t.val.sym)
def Al.tup (x : Al) : ByteArray × Int × List (Int × Int × Int × Int × Int × ByteArray) := (x.cls, x.arity, x.tests.map Tt.tup)
theorem Tt.tup_inj {x y : Tt} (h : x.tup = y.tup) : x = y := by
  obtain ⟨a1, a2, a3, a4, a5, a6⟩ := x
  obtain ⟨b1, b2, b3, b4, b5, b6⟩ := y
  simp only [Tt.tup, V.kind, V.num, V.sym, Prod.mk.injEq] at h
  obtain ⟨rfl, rfl, rfl, rfl, rfl, rfl⟩ := h
  rfl
theorem tups_inj : ∀ {xs ys : List Tt}, xs.map Tt.tup = ys.map Tt.tup → xs = ys
  | [], [], _ => rfl
  | [], _ :: _, h => by simp at h
  | _ :: _, [], h => by simp at h
  | x :: xs, y :: ys, h => by
    simp only [List.map_cons, List.cons.injEq] at h
    rw [Tt.tup_inj h.1, tups_inj h.2]
theorem Al.tup_inj {x y : Al} (h : x.tup = y.tup) : x = y := by
  obtain ⟨a1, a2, a3⟩ := x
  obtain ⟨b1, b2, b3⟩ := y
  simp only [Al.tup, Prod.mk.injEq] at h
  obtain ⟨rfl, rfl, h3⟩ := h
  rw [tups_inj h3]
/-- Two Alphas are the same. -/
def sameA (x y : Al) : Bool := decide (x.cls = y.cls) && (decide (x.arity = y.arity) && decide (x.tests.map Tt.tup = y.tests.map Tt.tup))
theorem sameA_iff {x y : Al} : sameA x y = true ↔ x = y := by
  unfold sameA
  simp only [Bool.and_eq_true, decide_eq_true_eq]
  exact ⟨fun h => Al.tup_inj (by simp [Al.tup, h.1, h.2.1, h.2.2]), fun h => by rw [h]; exact ⟨rfl, rfl, rfl⟩⟩
theorem sameA_no {x y : Al} (h : ¬ x = y) : sameA x y = false := by
  cases hs : sameA x y
  · rfl
  · exact absurd (sameA_iff.1 hs) h
/-- Where an Alpha is; as many as there are where it isn't. -/
def seekA (x : Al) : List Al → Nat
  | [] => 0
  | y :: r => if sameA y x then 0 else seekA x r + 1
theorem seekA_le (x : Al) : ∀ A : List Al, seekA x A ≤ A.length
  | [] => Nat.le_refl _
  | y :: r => by
    have := seekA_le x r
    unfold seekA
    split <;> simp
    omega
theorem seekA_at {x : Al} : ∀ {A : List Al}, seekA x A < A.length → A[seekA x A]? = some x
  | [], h => by simp at h
  | y :: r, h => by
    unfold seekA at h ⊢
    split
    · rename_i hs
      rw [sameA_iff.1 hs]
      rfl
    · rename_i hs
      rw [if_neg hs] at h
      simp only [List.getElem?_cons_succ]
      exact seekA_at (by simpa using h)
theorem seekA_no {x : Al} : ∀ {A : List Al}, x ∉ A → seekA x A = A.length
  | [], _ => rfl
  | y :: r, h => by
    unfold seekA
    rw [if_neg (fun hs => h (by rw [sameA_iff.1 hs]; simp)), seekA_no (fun hm => h (by simp [hm]))]
    rfl
theorem seekA_lt {x : Al} {A : List Al} : seekA x A < A.length ↔ x ∈ A := by
  constructor
  · intro h
    exact List.mem_of_getElem? (seekA_at h)
  · intro h
    have h1 := seekA_le x A
    rcases Nat.lt_or_ge (seekA x A) A.length with h2 | h2
    · exact h2
    · exact absurd h (fun hm => by
        have : ∀ {A : List Al}, x ∈ A → seekA x A < A.length := by
          intro A
          induction A with
          | nil => intro hh; simp at hh
          | cons y r ih =>
            intro hh
            unfold seekA
            split
            · simp
            · rename_i hs
              rcases List.mem_cons.1 hh with rfl | hh
              · exact absurd (sameA_iff.2 rfl) hs
              · have := ih hh
                simp
                omega
        have := this hm
        omega)
def addA (A : List Al) (x : Al) : List Al := if seekA x A < A.length then A else A ++ [x]
theorem addA_has {A : List Al} {x : Al} (h : seekA x A < A.length) : addA A x = A := if_pos h
theorem addA_new {A : List Al} {x : Al} (h : ¬ seekA x A < A.length) : addA A x = A ++ [x] := if_neg h
theorem seekA_new {A : List Al} {x : Al} (h : ¬ seekA x A < A.length) : seekA x A = A.length := by have := seekA_le x A; omega
theorem addA_nodup {A : List Al} {x : Al} (h : A.Nodup) : (addA A x).Nodup := by
  unfold addA
  split
  · exact h
  · rename_i hs
    rw [List.nodup_append]
    refine ⟨h, by simp, fun a ha b hb e => ?_⟩
    simp at hb
    subst hb
    subst e
    exact hs (seekA_lt.2 ha)
theorem addA_len (A : List Al) (x : Al) : (addA A x).length ≤ A.length + 1 := by
  unfold addA
  split <;> simp
/-- The patterns of one rule. -/
def rowA : List Al → List Pt → List Al × List Int
  | A, [] => (A, [])
  | A, p :: r => ((rowA (addA A (alphaOf p)) r).1, ((seekA (alphaOf p) A : Nat) : Int) :: (rowA (addA A (alphaOf p)) r).2)
theorem rowA_snoc (p : Pt) : ∀ (l : List Pt) (A : List Al), rowA A (l ++ [p]) = (addA (rowA A l).1 (alphaOf p), (rowA A l).2 ++ [((seekA (alphaOf p) (rowA A l).1 : Nat) : Int)])
  | [], A => rfl
  | q :: r, A => by
    simp only [List.cons_append, rowA]
    rw [rowA_snoc p r (addA A (alphaOf q))]
theorem rowA_len : ∀ (l : List Pt) (A : List Al), (rowA A l).2.length = l.length
  | [], _ => rfl
  | p :: r, A => by simp only [rowA, List.length_cons, rowA_len r]
theorem rowA_nodup : ∀ (l : List Pt) {A : List Al}, A.Nodup → (rowA A l).1.Nodup
  | [], _, h => h
  | _ :: r, _, h => rowA_nodup r (addA_nodup h)
theorem rowA_grow : ∀ (l : List Pt) (A : List Al), (rowA A l).1.length ≤ A.length + l.length
  | [], A => Nat.le_refl _
  | p :: r, A => by
    have h1 := rowA_grow r (addA A (alphaOf p))
    have h2 := addA_len A (alphaOf p)
    simp only [rowA, List.length_cons]
    omega
/-- All rules. -/
def netA : List Al → List Ru → List Al × List (List Int)
  | A, [] => (A, [])
  | A, r :: rs => ((netA (rowA A r.pats).1 rs).1, (rowA A r.pats).2 :: (netA (rowA A r.pats).1 rs).2)
theorem netA_snoc (r : Ru) : ∀ (l : List Ru) (A : List Al), netA A (l ++ [r]) = ((rowA (netA A l).1 r.pats).1, (netA A l).2 ++ [(rowA (netA A l).1 r.pats).2])
  | [], A => rfl
  | q :: s, A => by
    simp only [List.cons_append, netA]
    rw [netA_snoc r s]
theorem netA_len : ∀ (l : List Ru) (A : List Al), (netA A l).2.length = l.length
  | [], _ => rfl
  | r :: s, A => by simp only [netA, List.length_cons, netA_len s]
theorem netA_nodup : ∀ (l : List Ru) {A : List Al}, A.Nodup → (netA A l).1.Nodup
  | [], _, h => h
  | r :: s, _, h => netA_nodup s (rowA_nodup r.pats h)
theorem netA_grow : ∀ (l : List Ru) (A : List Al), (∀ r ∈ l, r.pats.length ≤ 6) → (netA A l).1.length ≤ A.length + 6 * l.length
  | [], A, _ => Nat.le_refl _
  | r :: s, A, h => by
    have h1 := netA_grow s (rowA A r.pats).1 (fun q hq => h q (by simp [hq]))
    have h2 := rowA_grow r.pats A
    have h3 := h r (by simp)
    simp only [netA, List.length_cons]
    omega
/-- Every Alpha among them came from a pattern. -/
def FromP (x : Al) : Prop := ∃ p : Pt, x = alphaOf p
theorem addA_from {A : List Al} {p : Pt} (h : ∀ x ∈ A, FromP x) : ∀ x ∈ addA A (alphaOf p), FromP x := by
  intro x hx
  unfold addA at hx
  split at hx
  · exact h x hx
  · rcases List.mem_append.1 hx with hx | hx
    · exact h x hx
    · simp at hx
      exact ⟨p, hx⟩
theorem rowA_from : ∀ (l : List Pt) {A : List Al}, (∀ x ∈ A, FromP x) → ∀ x ∈ (rowA A l).1, FromP x
  | [], _, h => h
  | _ :: r, _, h => rowA_from r (addA_from h)
theorem netA_from : ∀ (l : List Ru) {A : List Al}, (∀ x ∈ A, FromP x) → ∀ x ∈ (netA A l).1, FromP x
  | [], _, h => h
  | r :: s, _, h => netA_from s (rowA_from r.pats h)
theorem alphaOf_len (p : Pt) : (alphaOf p).tests.length ≤ 6 := by
  unfold alphaOf
  split
  · rename_i h
    exact Nat.le_trans (tests_len _ _) (gPt_six h)
  · simp
/-- The model's search: the last place where it is. -/
def lastA (x : Al) (A : List Al) (k : Nat) : Int := if seekA x (A.take k) < k then ((seekA x (A.take k) : Nat) : Int) else -1
end Go.Proofs.YtgamdkokmkagaaaGreat

namespace Go.Proofs.YtgamdkokmkagaaaGreat
open Go.RowKit
attribute [local go_sem ↓] Go.wp_at_zero Go.wp_at_succ
theorem hidN1 {p : Prop} (h : p) : Hid p := h
theorem bytes_eq {a b : ByteArray} (h : a.toList = b.toList) : a = b := by
  have h1 : (a.toList == b.toList) = true := by rw [h]; simp
  rw [bytes_beq] at h1
  simpa using h1
theorem C3.drew {w : World} {b : Nat} {x0 x1 x2 : Value} (h : C3 w b x0 x1 x2) : C3 w.drew b x0 x1 x2 := h
set_option maxHeartbeats 3200000 in
theorem l3Same_any (x y : Al) (ax ay : Option Addr) (cx cy : Nat) {q q' : Option Nat} (w : World) (hx : TtsAt q w ax x.tests) (hy : TtsAt q' w ay y.tests) (hl : x.tests.length ≤ 6) :
    Calls Tryz.prog 16 #[.agg #[.string x.cls, .int .i64 x.arity, .slice ax x.tests.length cx], .agg #[.string y.cls, .int .i64 y.arity, .slice ay y.tests.length cy]] w fun e w' => e = .returned (.bool (sameA x y)) ∧ Below w.heap.size w w' := by
  have B2 : ∀ o o1, Below w.heap.size w ((w.alloc o).alloc o1) := fun o o1 => ((Below.refl _ _).alloc (Nat.le_refl _) _).alloc (by simp) _
  cases e1 : (x.cls.toList == y.cls.toList)
  · have HN := hidN1 (sameA_no (x := x) (y := y) (fun e => by rw [e] at e1; simp at e1))
    have e1' : (x.cls.toList != y.cls.toList) = true := by rw [bne, e1]; rfl
    go_enter Tryz.func16, Tryz.ntmps16
    go_wp2_with fail
    go_ret
    exact ⟨ret_bool HN.out.symm, B2 _ _⟩
  have e1' : (x.cls.toList != y.cls.toList) = false := by rw [bne, e1]; rfl
  cases e2 : (x.arity == y.arity)
  · have HN := hidN1 (sameA_no (x := x) (y := y) (fun e => by rw [e] at e2; simp at e2))
    have e2' : (x.arity != y.arity) = true := by rw [bne, e2]; rfl
    go_enter Tryz.func16, Tryz.ntmps16
    go_wp2_with fail
    go_ret
    exact ⟨ret_bool HN.out.symm, B2 _ _⟩
  have e2' : (x.arity != y.arity) = false := by rw [bne, e2]; rfl
  cases e3 : ((x.tests.length : Int) == (y.tests.length : Int))
  · have HN := hidN1 (sameA_no (x := x) (y := y) (fun e => by rw [e] at e3; simp at e3))
    have e3' : ((x.tests.length : Int) != (y.tests.length : Int)) = true := by rw [bne, e3]; rfl
    go_enter Tryz.func16, Tryz.ntmps16
    go_wp2_with fail
    go_ret
    exact ⟨ret_bool HN.out.symm, B2 _ _⟩
  have e3' : ((x.tests.length : Int) != (y.tests.length : Int)) = false := by rw [bne, e3]; rfl
  have hlen : x.tests.length = y.tests.length := by simp at e3; omega
  have HLEN := hidN1 hlen
  have HE : Hid (x.tests.take x.tests.length = y.tests.take x.tests.length → sameA x y = true) := fun h => sameA_iff.2 (by
    rw [bytes_beq] at e1
    have h1 : x.cls = y.cls := by simpa using e1
    have h2 : x.arity = y.arity := by simpa using e2
    rw [List.take_of_length_le (Nat.le_refl _), List.take_of_length_le (by omega)] at h
    obtain ⟨x1, x2, x3⟩ := x
    obtain ⟨y1, y2, y3⟩ := y
    simp only at h1 h2 h
    subst h1 h2 h
    rfl)
  have hl2 : y.tests.length ≤ 6 := by omega
  clear hlen
  go_enter Tryz.func16, Tryz.ntmps16
  go_wp2_with fail
  clear e1 e2 e3 e1' e2' e3'
  go_loopw [30] (fun i wr => ∃ (k : Nat), k ≤ x.tests.length ∧ i = .int .i64 (k : Int) ∧ x.tests.take k = y.tests.take k ∧ Below w.heap.size w wr ∧ C3 wr w.heap.size (.string x.cls) (.int .i64 x.arity) (.slice ax x.tests.length cx) ∧ C3 wr (w.heap.size + 1) (.string y.cls) (.int .i64 y.arity) (.slice ay y.tests.length cy)) (fun i _ => x.tests.length - (intOf i).toNat)
  case atStart => exact ⟨0, by omega, rfl, rfl, B2 _ _, (C3.made _ _ _ _ _).below ((Below.refl _ _).alloc (Nat.le_refl _) _), by have := C3.made (w.alloc (.cells #[.string x.cls, .int .i64 x.arity, .slice ax x.tests.length cx] 54)) 54 (.string y.cls) (.int .i64 y.arity) (.slice ay y.tests.length cy); simpa using this⟩
  case round =>
    obtain ⟨k, hk, rfl, hT, hb, hA, hB⟩ := hrel
    have HT := hidN1 hT
    have HA := hidN1 hA
    have HB := hidN1 hB
    obtain ⟨f0, f1, f2⟩ := hA
    obtain ⟨g0, g1, g2⟩ := hB
    clear hT
    by_cases hkl : k < x.tests.length
    · obtain ⟨t, ht⟩ : ∃ t, x.tests[k]? = some t := ⟨x.tests[k], by simp [hkl]⟩
      obtain ⟨u, hu⟩ : ∃ u, y.tests[k]? = some u := ⟨y.tests[k]'(by have := HLEN.out; omega), by simp⟩
      obtain ⟨b, o, rfl, _, c0, c1, c2, c3, c4, c5⟩ := (hx.below hb).get ht
      obtain ⟨b', o', rfl, _, d0, d1, d2, d3, d4, d5⟩ := (hy.below hb).get hu
      have z0 : (0 : Int) ≤ (k : Int) := by omega
      have z1 : (k : Int) < (x.tests.length : Int) := by omega
      have z2 : (k : Int) < (y.tests.length : Int) := by have := HLEN.out; omega
      have HN : Hid (¬ t = u → sameA x y = false) := fun h => sameA_no (fun e => h (by rw [e, hu] at ht; injection ht with ht; exact ht.symm))
      have HS : Hid (t = u → x.tests.take (k + 1) = y.tests.take (k + 1)) := fun h => by rw [List.take_add_one, List.take_add_one, HT.out, ht, hu, h]
      clear ht hu
      by_cases h0 : t.slot = u.slot
      rotate_left
      · have HR := hidN1 (HN.out (fun e => h0 (by rw [e])))
        go_wp2_with fail
        go_region
        go_wp2_with fail
        go_ret
        exact ⟨ret_bool HR.out.symm, hb.drew⟩
      by_cases h1 : t.op = u.op
      rotate_left
      · have HR := hidN1 (HN.out (fun e => h1 (by rw [e])))
        go_wp2_with fail
        go_region
        go_wp2_with fail
        go_ret
        exact ⟨ret_bool HR.out.symm, hb.drew⟩
      by_cases h2 : t.other = u.other
      rotate_left
      · have HR := hidN1 (HN.out (fun e => h2 (by rw [e])))
        go_wp2_with fail
        go_region
        go_wp2_with fail
        go_ret
        exact ⟨ret_bool HR.out.symm, hb.drew⟩
      by_cases h3 : t.val.kind = u.val.kind
      rotate_left
      · have HR := hidN1 (HN.out (fun e => h3 (by rw [e])))
        go_wp2_with fail
        go_region
        go_wp2_with fail
        go_ret
        exact ⟨ret_bool HR.out.symm, hb.drew⟩
      by_cases h4 : t.val.num = u.val.num
      rotate_left
      · have HR := hidN1 (HN.out (fun e => h4 (by rw [e])))
        go_wp2_with fail
        go_region
        go_wp2_with fail
        go_ret
        exact ⟨ret_bool HR.out.symm, hb.drew⟩
      by_cases h5 : t.val.sym.toList = u.val.sym.toList
      rotate_left
      · have HR := hidN1 (HN.out (fun e => h5 (by rw [e])))
        go_wp2_with fail
        go_region
        go_wp2_with fail
        go_ret
        exact ⟨ret_bool HR.out.symm, hb.drew⟩
      have HR := hidN1 (HS.out (Tt.tup_inj (by simp only [Tt.tup, h0, h1, h2, h3, h4, bytes_eq h5])))
      go_wp2_with fail
      go_region
      go_wp2_with fail
      go_roundw
      case rel => exact ⟨k + 1, by omega, by go_num, HR.out, hb.drew, HA.out.drew, HB.out.drew⟩
      case measure => (simp [intOf]; omega)
    · have hke : k = x.tests.length := by omega
      subst hke
      have HR := hidN1 (HE.out HT.out)
      have z1 : ¬ (x.tests.length : Int) < (x.tests.length : Int) := by omega
      go_wp2_with fail
      go_ret
      exact ⟨ret_bool HR.out.symm, hb⟩
end Go.Proofs.YtgamdkokmkagaaaGreat
