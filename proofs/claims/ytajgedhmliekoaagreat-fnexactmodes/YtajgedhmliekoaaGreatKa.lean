/-
  OUR OWN TEXT. Ms1, Ms2, one behind the other.
-/
import Derived.Test.YtajgedhmliekoaaGreatChkm
import Derived.Laws.Strings
import Derived.Test.YtajgedhmliekoaaGreatJj
namespace Go.Proofs.YtajgedhmliekoaaGreat

def isV (t : Tm) : Bool := t.kind == 2
/-- The variables that a pattern's terms bind. -/
def varsOf (ts : List Tm) : List ByteArray := (ts.filter isV).map Tm.var
/-- The terms that look at what is known: the program's question, the model's question. -/
def jnI (known : List ByteArray) (t : Tm) : Bool := memB t.var known
def jnS (known : List ByteArray) (t : Tm) : Bool := !isE t.var && memB t.var known
def nextK (p : Pt) (known : List ByteArray) : List ByteArray := if p.neg then known else known ++ varsOf p.terms
def joinsGo (f : List ByteArray → Tm → Bool) : List Pt → List ByteArray → Nat
  | [], _ => 0
  | p :: r, known => p.terms.countP (f known) + joinsGo f r (nextK p known)
def knownGo : List Pt → List ByteArray → List ByteArray
  | [], known => known
  | p :: r, known => knownGo r (nextK p known)
def joinsOf (r : Ru) : Nat := joinsGo jnI r.pats []

theorem knownGo_snoc (p : Pt) : ∀ (l : List Pt) (known : List ByteArray), knownGo (l ++ [p]) known = nextK p (knownGo l known)
  | [], _ => rfl
  | q :: r, known => knownGo_snoc p r (nextK q known)
theorem joinsGo_snoc (f : List ByteArray → Tm → Bool) (p : Pt) : ∀ (l : List Pt) (known : List ByteArray), joinsGo f (l ++ [p]) known = joinsGo f l known + p.terms.countP (f (knownGo l known))
  | [], known => by simp [joinsGo, knownGo]
  | q :: r, known => by
    simp only [List.cons_append, joinsGo, knownGo]
    rw [joinsGo_snoc f p r (nextK q known)]
    omega

def FullK (known : List ByteArray) : Prop := ∀ s ∈ known, isE s = false
theorem gSym_full {s : ByteArray} (h : gSym s.data.toList = true) : isE s = false := by
  unfold gSym at h
  simp only [Bool.and_eq_true, decide_eq_true_eq] at h
  have h1 := h.1.1.1
  unfold isE
  have h2 : s.toList = s.data.toList := Go.ByteArray.toList_eq s
  rw [h2]
  cases hs : s.data.toList with
  | nil => rw [hs] at h1; simp at h1
  | cons x r => rfl
theorem jn_same {known : List ByteArray} (h : FullK known) (t : Tm) : jnS known t = jnI known t := by
  unfold jnS jnI
  cases he : isE t.var
  · simp
  · have : memB t.var known = false := by
      unfold memB
      rw [List.any_eq_false]
      intro y hy hd
      have hd' : y = t.var := by simpa using hd
      have h1 := h y hy
      rw [hd', he] at h1
      cases h1
    simp [this]
theorem full_next {p : Pt} {known : List ByteArray} (hp : p.terms.all gTm = true) (h : FullK known) : FullK (nextK p known) := by
  unfold nextK
  split
  · exact h
  · intro s hs
    rcases List.mem_append.1 hs with hs | hs
    · exact h s hs
    · unfold varsOf at hs
      obtain ⟨t, ht, rfl⟩ := List.mem_map.1 hs
      obtain ⟨ht1, ht2⟩ := List.mem_filter.1 ht
      have hg := List.all_eq_true.1 hp t ht1
      unfold isV at ht2
      have hk : t.kind = 2 := by simpa using ht2
      unfold gTm at hg
      simp only [hk] at hg
      rw [if_neg (by decide), if_neg (by decide), if_pos (by decide)] at hg
      simp only [Bool.and_eq_true] at hg
      exact gSym_full hg.2.1
theorem joins_same : ∀ (l : List Pt) (known : List ByteArray), (∀ p ∈ l, p.terms.all gTm = true) → FullK known → joinsGo jnS l known = joinsGo jnI l known
  | [], _, _, _ => rfl
  | p :: r, known, h, hk => by
    have h1 : jnS known = jnI known := funext fun t => jn_same hk t
    simp only [joinsGo]
    rw [joins_same r (nextK p known) (fun q hq => h q (List.mem_cons_of_mem _ hq)) (full_next (h p (by simp)) hk), h1]

/-- Checked rules have right patterns, at most six. -/
theorem firstBad_noneM {α : Type} (f : α → Bool) : ∀ (l : List α) (k : Nat), firstBad f l k = none → ∀ x ∈ l, f x = true
  | [], _, _, x, hx => by simp at hx
  | y :: r, k, h, x, hx => by
    unfold firstBad at h
    cases hy : f y
    · rw [hy] at h
      simp at h
    · rw [hy] at h
      simp only [if_true] at h
      rcases List.mem_cons.1 hx with rfl | hx
      · exact hy
      · exact firstBad_noneM f r (k + 1) h x hx
theorem shape_pats {r : Ru} (h : shape r = none) : r.pats.length ≤ 6 ∧ ∀ p ∈ r.pats, gPt p = true := by
  unfold shape at h
  split at h
  · rename_i hh
    simp only [headOk, Bool.and_eq_true, decide_eq_true_eq] at hh
    refine ⟨hh.2.1, ?_⟩
    cases hb : firstBad gPt r.pats 1 with
    | some i => rw [hb] at h; cases h
    | none => exact firstBad_noneM gPt r.pats 1 hb
  · cases h
theorem chk1_shape {pre : List Ru} {r : Ru} (h : (chk1 pre r).1 = 0) : shape r = none ∧ positives r.pats ≤ 3 := by
  unfold chk1 at h
  cases hs : shape r with
  | some i => rw [hs] at h; simp at h
  | none =>
    refine ⟨rfl, ?_⟩
    rw [hs] at h
    simp only at h
    split at h
    · simp at h
    · split at h
      · rename_i hp
        exact hp.2
      · simp at h
theorem chkGo_each : ∀ (l pre : List Ru) (k : Nat), (chkGo pre l k).1 = 0 → ∀ r ∈ l, shape r = none ∧ positives r.pats ≤ 3
  | [], _, _, _, r, hr => by simp at hr
  | q :: s, pre, k, h, r, hr => by
    unfold chkGo at h
    split at h
    · rename_i h0
      rcases List.mem_cons.1 hr with rfl | hr
      · exact chk1_shape h0
      · exact chkGo_each s _ _ h r hr
    · rename_i h0
      exact absurd h h0
theorem chk_each {rs : List Ru} (h : (chk rs).1 = 0) : rs.length ≤ 16 ∧ ∀ r ∈ rs, shape r = none ∧ positives r.pats ≤ 3 := by
  unfold chk at h
  split at h
  · rename_i hl
    exact ⟨hl, chkGo_each rs [] 0 h⟩
  · simp at h
theorem chk_joins {rs : List Ru} (h : (chk rs).1 = 0) {r : Ru} (hr : r ∈ rs) : joinsGo jnS r.pats [] = joinsOf r := by
  refine joins_same r.pats [] (fun p hp => ?_) (fun s hs => by simp at hs)
  have := (shape_pats ((chk_each h).2 r hr).1).2 p hp
  simp only [gPt, Bool.and_eq_true] at this
  exact this.2.2
theorem countP_le' {α : Type} (f : α → Bool) (l : List α) : l.countP f ≤ l.length := List.countP_le_length
theorem joinsGo_le (f : List ByteArray → Tm → Bool) : ∀ (l : List Pt) (known : List ByteArray), (∀ p ∈ l, p.terms.length ≤ 6) → joinsGo f l known ≤ 6 * l.length
  | [], _, _ => Nat.zero_le _
  | p :: r, known, h => by
    have h1 := joinsGo_le f r (nextK p known) (fun q hq => h q (List.mem_cons_of_mem _ hq))
    have h2 := countP_le' (f known) p.terms
    have h3 := h p (by simp)
    simp only [joinsGo, List.length_cons]
    omega
theorem chk_small {rs : List Ru} (h : (chk rs).1 = 0) {r : Ru} (hr : r ∈ rs) : r.pats.length ≤ 6 ∧ (∀ p ∈ r.pats, p.terms.length ≤ 6) ∧ positives r.pats ≤ 3 := by
  obtain ⟨h1, h2⟩ := (chk_each h).2 r hr
  obtain ⟨h3, h4⟩ := shape_pats h1
  refine ⟨h3, fun p hp => ?_, h2⟩
  have := h4 p hp
  simp only [gPt, Bool.and_eq_true, decide_eq_true_eq] at this
  exact this.2.1

def byCost (r : Ru) : Int := if positives r.pats * positives r.pats * positives r.pats + 2 * (r.pats.length - positives r.pats) ≤ 4 + 2 * joinsOf r then 0 else 1
/-- What a way tells of rule number i. -/
def modeOf (how : Int) (i : Nat) (r : Ru) : Int :=
  if how = 1 then 1 else if how = 2 then byCost r else if how = 3 then (i : Int) % 2 else 0
def modesL (how : Int) (rs : List Ru) : List Int := rs.mapIdx (modeOf how)
def modesOf (rs : List Ru) (how : Int) : List Int := if 0 ≤ how ∧ how ≤ 3 ∧ (chk rs).1 = 0 then modesL how rs else []
theorem modesL_len (how : Int) (rs : List Ru) : (modesL how rs).length = rs.length := by simp [modesL]
theorem modesL_snoc {how : Int} {rs : List Ru} {k : Nat} {r : Ru} (h : rs[k]? = some r) : modesL how (rs.take (k + 1)) = modesL how (rs.take k) ++ [modeOf how k r] := by
  have hk : k < rs.length := (List.getElem?_eq_some_iff.1 h).1
  unfold modesL
  have e : rs.take (k + 1) = rs.take k ++ [r] := by
    obtain ⟨hk', rfl⟩ := List.getElem?_eq_some_iff.1 h
    exact List.take_succ_eq_append_getElem hk'
  rw [e, List.mapIdx_append]
  simp [Nat.min_eq_left (Nat.le_of_lt hk)]
theorem modesOf_len (rs : List Ru) (how : Int) : (modesOf rs how).length ≤ rs.length := by
  unfold modesOf
  split
  · rw [modesL_len]; exact Nat.le_refl _
  · exact Nat.zero_le _
theorem modesOf_no {rs : List Ru} {how : Int} (h : ¬ (0 ≤ how ∧ how ≤ 3 ∧ (chk rs).1 = 0)) : modesOf rs how = [] := if_neg h
theorem modesOf_yes {rs : List Ru} {how : Int} (h : 0 ≤ how ∧ how ≤ 3 ∧ (chk rs).1 = 0) : modesOf rs how = modesL how rs := if_pos h
end Go.Proofs.YtajgedhmliekoaaGreat

namespace Go.Proofs.YtajgedhmliekoaaGreat
open Go.RowKit Go.Maps
attribute [local go_sem ↓] Go.wp_at_zero Go.wp_at_succ

theorem varsOf_yes {ts : List Tm} {k : Nat} {t : Tm} (h : ts[k]? = some t) (h2 : t.kind = 2) : varsOf (ts.take (k + 1)) = varsOf (ts.take k) ++ [t.var] := by
  unfold varsOf
  rw [take_succ' ts k t h, List.filter_append, List.map_append]
  simp [isV, h2]
theorem varsOf_no {ts : List Tm} {k : Nat} {t : Tm} (h : ts[k]? = some t) (h2 : ¬ t.kind = 2) : varsOf (ts.take (k + 1)) = varsOf (ts.take k) := by
  unfold varsOf
  rw [take_succ' ts k t h, List.filter_append, List.map_append]
  simp [isV, h2]

set_option maxHeartbeats 3200000 in
theorem bind_any (x : Pt) (a : Option Addr) (c b n : Nat) (D : DataW Unit) (known : List ByteArray) {q : Option Nat} (w0 w : World) (hb0 : Below w0.heap.size w0 w) (hv : TmsAt q w0 a x.terms) (hs : ListLe Tm.le maxLen x.terms) (hl : x.terms.length ≤ 1048576) (hown0 : NMap w b n D) (hI : NInv known D) (hb1 : w0.heap.size ≤ b) (hn : n ≤ 1048576) :
    Calls Tryz.prog 85 #[.map (some b), .agg #[.bool x.neg, .string x.cls, .slice a x.terms.length c]] w fun e w' =>
      e = .returned (.tuple #[]) ∧ Below b w w' ∧ ∃ n' D', n' ≤ n + x.terms.length ∧ NMap w' b n' D' ∧ NInv (known ++ varsOf x.terms) D' := by
  have hbw := hown0.lt
  go_enter Tryz.func85, Tryz.ntmps85
  go_wp2
  go_loopw [9] (fun i wr => ∃ (k n' : Nat) (D' : DataW Unit), k ≤ x.terms.length ∧ i = .int .i64 k ∧ n' ≤ n + k ∧ NMap wr b n' D' ∧ NInv (known ++ varsOf (x.terms.take k)) D' ∧ Below b w wr) (fun i _ => x.terms.length - (intOf i).toNat)
  case atStart => exact ⟨0, n, D, by omega, rfl, by omega, hown0.alloc _, by simpa [varsOf] using hI, (Below.refl _ _).alloc (by omega) _⟩
  case round =>
    obtain ⟨k, n', D', hk, rfl, hn', hown, hI', hb⟩ := hrel
    have hbl := hown.lt
    by_cases hkl : k < x.terms.length
    · obtain ⟨t, htk⟩ : ∃ t, x.terms[k]? = some t := ⟨x.terms[k], by simp [hkl]⟩
      obtain ⟨b', o, rfl, hq, c0, c1, c2, c3, c4, c5⟩ := (hv.below (hb0.trans (hb.mono (by omega)))).get htk
      have hst := (hs.2 t (List.mem_of_getElem? htk)).1
      have hBa : ∀ o, Below (b) w (wr.alloc o) := fun o => hb.alloc (by have := hb.size; omega) _
      have hOa : ∀ o, NMap (wr.alloc o) (b) n' D' := fun o => hown.alloc o
      by_cases k2 : t.kind = 2
      · have HN := hideH (varsOf_yes htk k2)
        have hI2 := hI'.put (v := t.var) hown.isMap (.lit (.bool true))
        rw [List.append_assoc] at hI2
        obtain ⟨w2, hrun, ho2, hg2⟩ := (hown.alloc (.cells #[.int .i64 2, .int .i64 t.op, .string t.var, .int .i64 t.val.kind, .int .i64 t.val.num, .string t.val.sym] 95)).update lawS (t := 125) Tryz.underlying125 (by unfold maxLen; omega) (Go.WideMaps.keyOf_string_mk Tryz.underlying9 hst) (show unitR (.agg #[]) = some (.lit (.bool true), []) from rfl)
        have HO2 := hideH ho2
        have HI2 := hideH hI2
        have hBb := hBa (.cells #[.int .i64 2, .int .i64 t.op, .string t.var, .int .i64 t.val.kind, .int .i64 t.val.num, .string t.val.sym] 95)
        have hB2 : Below (b) w w2 := hBb.grown hg2 (by have := hb.size; simp; omega) (fun j hj => by cases hj; omega)
        clear ho2 hg2 hOa hBa hI2 hI'
        rw [k2] at c0
        go_wp2
        clear hrun
        go_roundw
        case rel => exact ⟨k + 1, n' + 1, _, by omega, by go_num, by omega, HO2.out, by rw [HN.out]; exact HI2.out, hB2⟩
        case measure => simp [intOf]; omega
      · have HN := hideH (varsOf_no htk k2)
        have HI' := hideH hI'
        clear hI'
        go_wp2
        go_roundw
        case rel => exact ⟨k + 1, n', D', by omega, by go_num, by omega, hOa _, by rw [HN.out]; exact HI'.out, hBa _⟩
        case measure => simp [intOf]; omega
    · go_wp2
      go_end0
      rw [List.take_of_length_le (by omega)] at hI'
      exact ⟨rfl, hb, n', D', by omega, hown, hI'⟩

theorem countP_succ {α : Type} {f : α → Bool} {l : List α} {k : Nat} {x : α} (h : l[k]? = some x) : (l.take (k + 1)).countP f = (l.take k).countP f + (if f x then 1 else 0) := by
  rw [take_succ' l k x h, List.countP_append]
  simp [List.countP_cons]
theorem belowN {w w' : World} {b n B : Nat} {D : DataW Unit} (h : NMap w b n D) (hb : Below B w w') (hB : b < B) : NMap w' b n D := by
  obtain ⟨es, clock, h1, h2⟩ := h
  exact ⟨es, clock, (hb.block b hB).trans h1, h2⟩

set_option maxHeartbeats 3200000 in
theorem joins_any (x : Ru) (a_pats : Option Addr) (c_pats : Nat) (a_exprs : Option Addr) (c_exprs : Nat) (a_acts : Option Addr) (c_acts : Nat) {q : Option Nat} (w : World) (h_pats : PtsAt q w a_pats x.pats) (hs : ListLe Pt.le maxLen x.pats) (hp6 : x.pats.length ≤ 6) (ht6 : ∀ p ∈ x.pats, p.terms.length ≤ 6) :
    Calls Tryz.prog 64 #[.agg #[.string x.name, .int .i64 x.sal, .slice a_pats x.pats.length c_pats, .slice a_exprs x.exprs.length c_exprs, .slice a_acts x.acts.length c_acts]] w fun e w' =>
      e = .returned (.int .i64 (joinsOf x : Int)) ∧ Below w.heap.size w w' := by
  have B0 : ∀ o, Below w.heap.size w (w.alloc o) := fun o => (Below.refl _ _).alloc (Nat.le_refl _) _
  have HLE := hideH (fun k => joinsGo_le jnI (x.pats.take k) [] (fun p hp => ht6 p (List.mem_of_mem_take hp)))
  have hmm := fun w => run_makeMap (P := Tryz.prog) 125 w
  go_enter Tryz.func64, Tryz.ntmps64
  go_wp2
  go_loopw [3, 13] (fun kv i wr => ∃ (k n' : Nat) (D' : DataW Unit), k ≤ x.pats.length ∧ i = .int .i64 k ∧ kv = .int .i64 (joinsGo jnI (x.pats.take k) [] : Int) ∧ n' ≤ 6 * k ∧ NMap wr (w.heap.size + 1) n' D' ∧ NInv (knownGo (x.pats.take k) []) D' ∧ Below w.heap.size w wr) (fun _ i _ => x.pats.length - (intOf i).toNat)
  case atStart =>
    refine ⟨0, 0, .map [], by omega, rfl, rfl, by omega, ?_, NInv.start, ((Below.refl _ _).alloc (Nat.le_refl _) _).alloc (by simp) _⟩
    have := World.ownsMap_made (H := Unit) (w.alloc (.cells #[.string x.name, .int .i64 x.sal, .slice a_pats x.pats.length c_pats, .slice a_exprs x.exprs.length c_exprs, .slice a_acts x.acts.length c_acts] 53)) Tryz.prog 9 unitR
    simpa using this
  case round =>
    obtain ⟨k, n', D', hk, rfl, rfl, hn', hown, hI', hb⟩ := hrel
    have hbl := hown.lt
    have HI' := hideH hI'
    have HJ := hideH (HLE.out k)
    clear hI'
    by_cases hkl : k < x.pats.length
    · obtain ⟨p, hpk⟩ : ∃ p, x.pats[k]? = some p := ⟨x.pats[k], by simp [hkl]⟩
      obtain ⟨b, o, a_terms, c_terms, rfl, hq, c0', c1', c2', h_terms0⟩ := h_pats.get hpk
      have c0 := cell_below hb c0'
      have c1 := cell_below hb c1'
      have c2 := cell_below hb c2'
      have h_terms := h_terms0.below hb
      have HT0 := hideH h_terms0
      clear c0' c1' c2' h_terms0
      have hp6' := ht6 p (List.mem_of_getElem? hpk)
      have hsp := hs.2 p (List.mem_of_getElem? hpk)
      have HTK := hideH (take_succ' _ _ _ hpk)
      have HTM := hideH h_terms
      obtain ⟨wo, rfl⟩ : ∃ u, u = wr := ⟨wr, rfl⟩
      have B1 : ∀ o, Below wo.heap.size wo (wo.alloc o) := fun o => (Below.refl _ _).alloc (Nat.le_refl _) _
      have HO := hideH hown
      obtain ⟨J, hJ⟩ : ∃ J, J = joinsGo jnI (x.pats.take k) [] := ⟨_, rfl⟩
      have hJ36 : J ≤ 36 := by
        have h1 := HJ.out
        have h2 : (x.pats.take k).length ≤ 6 := by simp; omega
        omega
      have HJE := hideH hJ
      rw [← hJ]
      clear h_terms hown hJ HJ
      go_wp2
      clear c0 c1 c2 hq
      go_loopw [3, 20] (fun kv i wr' => ∃ (j T : Nat), j ≤ p.terms.length ∧ i = .int .i64 j ∧ kv = .int .i64 (T : Int) ∧ T = J + (p.terms.take j).countP (jnI (knownGo (x.pats.take k) [])) ∧ Below (wo.heap.size + 1) (wo.alloc (.cells #[.bool p.neg, .string p.cls, .slice a_terms p.terms.length c_terms] 90)) wr') (fun _ i _ => p.terms.length - (intOf i).toNat)
      case atStart => exact ⟨0, J, by omega, rfl, rfl, by simp, Below.refl _ _⟩
      case round =>
        obtain ⟨j, T, hj, rfl, rfl, hT, hbW⟩ := hrel
        have HT := hideH hT
        have hBo : Below wo.heap.size wo wr := (B1 _).trans (hbW.mono (by omega))
        have hsz := hbW.size
        have hcl := countP_le' (jnI (knownGo (x.pats.take k) [])) (p.terms.take j)
        have htl : (p.terms.take j).length ≤ 6 := by simp; omega
        have A1 : ∀ o, Below (wo.heap.size + 1) (wo.alloc (.cells #[.bool p.neg, .string p.cls, .slice a_terms p.terms.length c_terms] 90)) (wr.alloc o) := fun o => hbW.alloc (by simp at hsz; omega) _
        have HM : Hid (∀ o, NMap (wr.alloc o) (w.heap.size + 1) n' D') := show ∀ o, NMap (wr.alloc o) (w.heap.size + 1) n' D' from fun o => (ownsM HO.out hBo).alloc o
        by_cases hjl : j < p.terms.length
        · obtain ⟨t, htk⟩ : ∃ t, p.terms[j]? = some t := ⟨p.terms[j], by simp [hjl]⟩
          obtain ⟨b', o', ea, hq, d0, d1, d2, d3, d4, d5⟩ := (HTM.out.below hBo).get htk
          subst ea
          have hst := (hsp.2.2 t (List.mem_of_getElem? htk)).1
          have HC := hideH (countP_succ (f := jnI (knownGo (x.pats.take k) [])) htk)
          have hH := hideHave (w.heap.size + 1) n' D' (knownGo (x.pats.take k) []) t.var HI'.out hst
          obtain ⟨C, hC⟩ : ∃ C, C = (p.terms.take j).countP (jnI (knownGo (x.pats.take k) [])) := ⟨_, rfl⟩
          rw [← hC] at HC hcl hT HT
          have hj0 : jnI (knownGo (x.pats.take k) []) t = memB t.var (knownGo (x.pats.take k) []) := rfl
          have hw1 : IntKind.i64.wrap ((T : Int) + 1) = ((T + 1 : Nat) : Int) := by rw [IntKind.wrap_i64] <;> omega
          rw [hj0] at HC
          clear hj0 hC hT
          cases hm : memB t.var (knownGo (x.pats.take k) [])
          all_goals
            rw [hm] at hH HC
            go_wp2_with (go_at_call 84; refine (hH.out _ (HM.out _)).mono ?_; rintro e' w1 ⟨rfl, hb1⟩)
            have hB1 := (A1 (.cells #[.int .i64 t.kind, .int .i64 t.op, .string t.var, .int .i64 t.val.kind, .int .i64 t.val.num, .string t.val.sym] 95)).trans (hb1.mono (by have h1 := hbW.size; simp at h1 ⊢; omega))
          · go_roundw
            case rel => exact ⟨j + 1, T, by omega, by go_num, rfl, by rw [HC.out, HT.out]; rfl, hB1⟩
            case measure => simp [intOf]; omega
          · go_roundw
            case rel => exact ⟨j + 1, T + 1, by omega, by go_num, rfl, by rw [HC.out, HT.out]; rfl, hB1⟩
            case measure => simp [intOf]; omega
        · have hjj : p.terms.take j = p.terms := List.take_of_length_le (by omega)
          rw [hjj] at HT
          clear hT
          have d0 : wr.cell? ⟨wo.heap.size, 0, none⟩ = some (.bool p.neg) := (hbW.cell (p := ⟨wo.heap.size, 0, none⟩) (by simp)).trans (by simp [go_sem])
          have d1 : wr.cell? ⟨wo.heap.size, 1, none⟩ = some (.string p.cls) := (hbW.cell (p := ⟨wo.heap.size, 1, none⟩) (by simp)).trans (by simp [go_sem])
          have d2 : wr.cell? ⟨wo.heap.size, 2, none⟩ = some (.slice a_terms p.terms.length c_terms) := (hbW.cell (p := ⟨wo.heap.size, 2, none⟩) (by simp)).trans (by simp [go_sem])
          have hBw : Below w.heap.size w wr := hb.trans (hBo.mono hb.size)
          have HJ1 : Hid (T = joinsGo jnI (x.pats.take (k + 1)) []) := show T = _ from by rw [HTK.out, joinsGo_snoc, HT.out, HJE.out]
          have HKN := hideH (knownGo_snoc p (x.pats.take k) [])
          rw [← HTK.out] at HKN
          clear hcl htl
          cases hn2 : p.neg
          all_goals rw [hn2] at d0
          · have HNX : Hid (nextK p (knownGo (x.pats.take k) []) = knownGo (x.pats.take k) [] ++ varsOf p.terms) := show nextK p _ = _ from by simp [nextK, hn2]
            have hBI := hideH (fun w' h1 h2 => bind_any p a_terms c_terms (w.heap.size + 1) n' D' (knownGo (x.pats.take k) []) w w' h1 HT0.out hsp.2 (by omega) h2 HI'.out (by omega) (by omega))
            rw [hn2] at hBI
            go_wp2_with (go_at_call 85; refine (hBI.out _ hBw (ownsM HO.out hBo)).mono ?_; rintro e' w1 ⟨rfl, hb1, n2, D2, hn2', ho2, hi2⟩)
            go_roundw
            case rel => exact ⟨k + 1, n2, D2, by omega, by go_num, by rw [HJ1.out], by omega, ho2, by rw [HKN.out, HNX.out]; exact hi2, hBw.trans (hb1.mono (by omega))⟩
            case measure => simp [intOf]; omega
          · have HNX : Hid (nextK p (knownGo (x.pats.take k) []) = knownGo (x.pats.take k) []) := show nextK p _ = _ from by simp [nextK, hn2]
            go_wp2
            go_roundw
            case rel => exact ⟨k + 1, n', D', by omega, by go_num, by rw [HJ1.out], by omega, ownsM HO.out hBo, by rw [HKN.out, HNX.out]; exact HI'.out, hBw⟩
            case measure => simp [intOf]; omega
    · go_wp2
      go_ret
      rw [List.take_of_length_le (by omega)]
      exact ⟨rfl, hb⟩
end Go.Proofs.YtajgedhmliekoaaGreat
