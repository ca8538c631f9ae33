/-
  OUR OWN TEXT. Pg3, Pq1, Pq2, Pq3, Pq4, Pq5, Nd4, Pq6, Pq7, Pq8, one behind the other.
-/
import Derived.Test.YtmmdlgjmplddiaaGreatGbp
import Derived.Test.YtmmdlgjmplddiaaGreatGah
import Derived.Test.YtmmdlgjmplddiaaGreatGbl
import Derived.Test.YtmmdlgjmplddiaaGreatGbm
import Derived.Test.YtmmdlgjmplddiaaGreatGbn
import Derived.Test.YtmmdlgjmplddiaaGreatGbo
import Derived.Test.YtmmdlgjmplddiaaGreatGam
namespace Go.Proofs.YtmmdlgjmplddiaaGreat
open Go.RowKit
attribute [local go_sem ↓] Go.wp_at_zero Go.wp_at_succ

/-- A node's Alpha. -/
structure NdAt (w : World) (nb : Nat) (x : Al) (a : Option Addr) (c : Nat) : Prop where
  c0 : w.cell? ⟨nb, 0, none⟩ = some (.string x.cls)
  c1 : w.cell? ⟨nb, 1, none⟩ = some (.int .i64 x.arity)
  c2 : w.cell? ⟨nb, 2, none⟩ = some (.slice a x.tests.length c)
  tt : TtsAt none w a x.tests
theorem NdAt.below {w w' : World} {nb : Nat} {x : Al} {a : Option Addr} {c : Nat} (h : NdAt w nb x a c) (hb : Below w.heap.size w w') : NdAt w' nb x a c := ⟨cell_below hb h.c0, cell_below hb h.c1, cell_below hb h.c2, h.tt.below hb⟩
/-- A condition: what it is, and the facts of its node. -/
structure Cn where
  neg : Bool
  at_ : Nat
  node : Nat
  tests : List Jt
  alpha : Al
  facts : List F
structure CnR (w : World) (c : Cn) (ta : Option Addr) : Prop where
  tests : JtsAt w ta c.tests
  node : ∃ a n, NdAt w c.node c.alpha a n
  facts : ∃ fa fc, w.cell? ⟨c.node, 4, none⟩ = some (.slice fa c.facts.length fc) ∧ FpsAt w fa c.facts
theorem CnR.below {w w' : World} {c : Cn} {ta : Option Addr} (h : CnR w c ta) (hb : Below w.heap.size w w') : CnR w' c ta := by
  obtain ⟨h1, ⟨a, n, h2⟩, fa, fc, h3, h4⟩ := h
  exact ⟨h1.below hb, ⟨a, n, h2.below hb⟩, fa, fc, cell_below hb h3, h4.below hb⟩
def CnsAt (w : World) (a : Option Addr) (cs : List Cn) : Prop := ∀ (i : Nat) (c : Cn), cs[i]? = some c → ∃ b o ta tc, a = some ⟨b, o, none⟩ ∧ w.cell? ⟨b, o + i * 4, none⟩ = some (.bool c.neg) ∧ w.cell? ⟨b, o + i * 4 + 1, none⟩ = some (.int .i64 (c.at_ : Int)) ∧ w.cell? ⟨b, o + i * 4 + 2, none⟩ = some (.pointer (some ⟨c.node, 0, none⟩)) ∧ w.cell? ⟨b, o + i * 4 + 3, none⟩ = some (.slice ta c.tests.length tc) ∧ CnR w c ta
theorem CnsAt.below {w w' : World} {a : Option Addr} {cs : List Cn} (h : CnsAt w a cs) (hb : Below w.heap.size w w') : CnsAt w' a cs := by
  intro i c hi
  obtain ⟨b, o, ta, tc, e, h0, h1, h2, h3, h4⟩ := h i c hi
  exact ⟨b, o, ta, tc, e, cell_below hb h0, cell_below hb h1, cell_below hb h2, cell_below hb h3, h4.below hb⟩
end Go.Proofs.YtmmdlgjmplddiaaGreat

namespace Go.Proofs.YtmmdlgjmplddiaaGreat

/-- What a variable stands for in a token. -/
def vrVal (T : List F) (v : Vr) : V := (((T[v.fact]?.map (·.slots)).getD [])[v.slot]?.getD (0, 0, ⟨#[]⟩))
def envB (T : List F) (vs : List Vr) : List Bd := vs.map (fun v => ⟨v.name, vrVal T v⟩)
theorem lookB_env (T : List F) (s : ByteArray) : ∀ vs : List Vr, lookB (envB T vs) s = (lookV vs s).map (vrVal T)
  | [] => rfl
  | v :: r => by
    have ih := lookB_env T s r
    unfold envB at ih ⊢
    rw [List.map_cons, lookB_cons, lookV_cons]
    by_cases h : v.name = s
    · rw [if_pos h, if_pos h]; rfl
    · rw [if_neg h, if_neg h]; exact ih
theorem lookB_append (s : ByteArray) (b : List Bd) : ∀ a : List Bd, lookB (a ++ b) s = (match lookB a s with | some x => some x | none => lookB b s)
  | [] => rfl
  | x :: r => by
    rw [List.cons_append, lookB_cons, lookB_cons]
    by_cases h : x.var = s
    · rw [if_pos h, if_pos h]
    · rw [if_neg h, if_neg h]; exact lookB_append s b r
theorem firstVar_snoc (name : ByteArray) (t : Tm) : ∀ (l : List Tm) (k : Nat), firstVar name (l ++ [t]) k = (match firstVar name l k with | some j => some j | none => if isVar name t = true then some (k + l.length) else none)
  | [], k => by
    rw [List.nil_append, firstVar_cons]
    simp [firstVar]
  | x :: r, k => by
    rw [List.cons_append, firstVar_cons, firstVar_cons]
    by_cases h : isVar name x = true
    · rw [if_pos h, if_pos h]
    · rw [if_neg h, if_neg h, firstVar_snoc name t r (k + 1), List.length_cons, show k + 1 + r.length = k + (r.length + 1) by omega]
theorem earlier_succ {ts : List Tm} {i : Nat} {t : Tm} (h : ts[i]? = some t) (name : ByteArray) : earlier ts (i + 1) name = (match earlier ts i name with | some j => some j | none => if isVar name t = true then some i else none) := by
  have hi : i < ts.length := (List.getElem?_eq_some_iff.1 h).1
  unfold earlier
  rw [List.take_add_one, h]
  show firstVar name (ts.take i ++ [t]) 0 = _
  rw [firstVar_snoc]
  simp [Nat.min_eq_left (Nat.le_of_lt hi)]
/-- The binds that the first terms of a pattern make. -/
def newB (bs : List Bd) (ts : List Tm) (sl : List V) : Nat → List Bd
  | 0 => []
  | i + 1 => newB bs ts sl i ++ (match ts[i]?, sl[i]? with | some t, some v => if t.kind = 2 ∧ lookB bs t.var = none ∧ earlier ts i t.var = none then [⟨t.var, v⟩] else [] | _, _ => [])
theorem newB_succ {bs : List Bd} {ts : List Tm} {sl : List V} {i : Nat} {t : Tm} {v : V} (h : ts[i]? = some t) (hv : sl[i]? = some v) : newB bs ts sl (i + 1) = newB bs ts sl i ++ (if t.kind = 2 ∧ lookB bs t.var = none ∧ earlier ts i t.var = none then [⟨t.var, v⟩] else []) := by
  simp [newB, h, hv]
theorem isVar_iff {name : ByteArray} {t : Tm} : isVar name t = true ↔ t.kind = 2 ∧ t.var = name := by
  unfold isVar
  rw [bytes_beq]
  simp
theorem firstVar_ltP {name : ByteArray} : ∀ {l : List Tm} {s k : Nat}, firstVar name l s = some k → k < s + l.length
  | [], _, _, h => by simp [firstVar] at h
  | t :: r, s, k, h => by
    rw [firstVar_cons] at h
    split at h
    · injection h with h
      subst h
      simp
    · have := firstVar_ltP h
      simp
      omega
theorem lookB_newB {bs : List Bd} {ts : List Tm} {sl : List V} (hl : ts.length = sl.length) {name : ByteArray} (hn : lookB bs name = none) : ∀ i, i ≤ ts.length → lookB (newB bs ts sl i) name = (earlier ts i name).bind (fun j => sl[j]?)
  | 0, _ => by simp [newB, lookB, earlier, firstVar]
  | i + 1, hi => by
    obtain ⟨t, ht⟩ : ∃ t, ts[i]? = some t := ⟨ts[i], by simp⟩
    obtain ⟨v, hv⟩ : ∃ v, sl[i]? = some v := ⟨sl[i], by simp⟩
    have ih := lookB_newB hl hn i (by omega)
    rw [newB_succ ht hv, lookB_append, ih, earlier_succ ht]
    cases he : earlier ts i name with
    | some j =>
      have hj : j < ts.length := by
        have := firstVar_ltP he
        simp at this
        omega
      simp [show j < sl.length by omega]
    | none =>
      simp only [Option.bind_none]
      by_cases h2 : isVar name t = true
      · obtain ⟨k2, kv⟩ := isVar_iff.1 h2
        subst kv
        rw [if_pos ⟨k2, hn, he⟩, if_pos h2, lookB_cons, if_pos rfl]
        simp [hv]
      · rw [if_neg h2]
        by_cases h3 : t.kind = 2 ∧ lookB bs t.var = none ∧ earlier ts i t.var = none
        · rw [if_pos h3, lookB_cons, if_neg (fun e => h2 (isVar_iff.2 ⟨h3.1, e⟩))]
          rfl
        · rw [if_neg h3]
          rfl
end Go.Proofs.YtmmdlgjmplddiaaGreat

namespace Go.Proofs.YtmmdlgjmplddiaaGreat

theorem eqV_iff {v o : V} : eqV v o = true ↔ v = o := by
  unfold eqV
  constructor
  · intro h
    simp only [Bool.and_eq_true, beq_iff_eq, decide_eq_true_eq] at h
    exact V.ext3 h.1 h.2.1 h.2.2
  · rintro rfl
    simp
theorem meets_one (v o : V) : meets 1 v o = decide (v = o) := by
  have : meets 1 v o = eqV v o := by simp [meets]
  rw [this]
  by_cases h : v = o
  · rw [decide_eq_true h]; exact eqV_iff.2 h
  · rw [decide_eq_false h]
    cases he : eqV v o
    · rfl
    · exact absurd (eqV_iff.1 he) h
/-- What a term asks: of the fact alone, and of the token. -/
def termOk (T : List F) (vs : List Vr) (ts : List Tm) (f : F) (i : Nat) (t : Tm) : Bool :=
  (match testOf ts i t with | none => true | some u => tHolds u f.slots) && (match jtOf vs ts i t with | none => true | some u => jHolds T f u)
theorem earlier_other {ts : List Tm} {i : Nat} {t : Tm} (h : ts[i]? = some t) (hk : t.kind ≠ 2) (name : ByteArray) : earlier ts (i + 1) name = earlier ts i name := by
  rw [earlier_succ h, if_neg (fun e => hk (isVar_iff.1 e).1)]
  cases earlier ts i name <;> rfl
theorem newB_other {bs : List Bd} {ts : List Tm} {sl : List V} {i : Nat} {t : Tm} {v : V} (h : ts[i]? = some t) (hv : sl[i]? = some v) (hk : t.kind ≠ 2) : newB bs ts sl (i + 1) = newB bs ts sl i := by
  rw [newB_succ h hv, if_neg (fun e => hk e.1), List.append_nil]
theorem getI_nat (vs : List V) (i : Nat) : getI vs (i : Int) = vs[i]? := by
  unfold getI
  rw [if_pos (by omega)]
  simp
theorem tHolds_const {sl : List V} {i : Nat} {v : V} {op : Int} {val : V} (h : sl[i]? = some v) : tHolds ⟨(i : Int), op, -1, val⟩ sl = meets op v val := by
  unfold tHolds
  simp only [getI_nat, h]
  rw [if_pos trivial]
theorem tHolds_two {sl : List V} {i j : Nat} {v u : V} {op : Int} {val : V} (h : sl[i]? = some v) (hj : sl[j]? = some u) : tHolds ⟨(i : Int), op, (j : Int), val⟩ sl = meets op v u := by
  unfold tHolds
  simp only [getI_nat, h, hj]
  rw [if_neg (by omega)]
theorem jHolds_vr {T : List F} {f : F} {i : Nat} {v : V} {op : Int} {x : Vr} (h : f.slots[i]? = some v) : jHolds T f ⟨i, op, x.fact, x.slot⟩ = meets op v (vrVal T x) := by
  unfold jHolds vrVal
  simp only [h]
  rfl
theorem isE_iff {s : ByteArray} : s.toList.isEmpty = true ↔ s = ⟨#[]⟩ := by
  constructor
  · intro h
    have h2 : (s.toList == (⟨#[]⟩ : ByteArray).toList) = true := by rw [List.isEmpty_iff.1 h, emM]; rfl
    rw [bytes_beq] at h2
    simpa using h2
  · rintro rfl
    rw [emM]; rfl
section
variable {T : List F} {vs : List Vr} {f : F} {ts : List Tm} {i : Nat} {t : Tm} {v : V}
theorem look_out (hl : ts.length = f.slots.length) (hi : i ≤ ts.length) (name : ByteArray) : lookB (envB T vs ++ newB (envB T vs) ts f.slots i) name = (match lookB (envB T vs) name with | some x => some x | none => (earlier ts i name).bind (fun j => f.slots[j]?)) := by
  rw [lookB_append]
  cases h : lookB (envB T vs) name with
  | some x => rfl
  | none => exact lookB_newB hl h i hi
/-- What is known so far fits: a name that the token binds, and that an earlier term of the pattern has, stands for one value. -/
def Fits (T : List F) (vs : List Vr) (ts : List Tm) (f : F) (i : Nat) : Prop := ∀ name x j, lookB (envB T vs) name = some x → earlier ts i name = some j → f.slots[j]? = some x
theorem agT_step0 (hk : t.kind = 0) (hvar : t.var = ⟨#[]⟩) (ht : ts[i]? = some t) (hv : f.slots[i]? = some v) (hE : lookV vs ⟨#[]⟩ = none) (H1 : Fits T vs ts f i) :
    agT (envB T vs ++ newB (envB T vs) ts f.slots i) t v = (if termOk T vs ts f i t = true then some (envB T vs ++ newB (envB T vs) ts f.slots (i + 1)) else none) ∧ (termOk T vs ts f i t = true → Fits T vs ts f (i + 1)) := by
  have h1 : testOf ts i t = none := by unfold testOf; rw [if_pos (by simp [hk])]
  have h2 : jtOf vs ts i t = none := by unfold jtOf; rw [hvar, hE]
  have h3 : termOk T vs ts f i t = true := by unfold termOk; rw [h1, h2]; rfl
  rw [if_pos h3, newB_other ht hv (by omega)]
  refine ⟨?_, fun _ name x j hx hj => H1 name x j hx (by rwa [earlier_other ht (by omega)] at hj)⟩
  unfold agT
  rw [if_neg (by omega), if_neg (by omega), if_neg (by omega)]
theorem agT_step1 (hk : t.kind = 1) (hvar : t.var = ⟨#[]⟩) (ht : ts[i]? = some t) (hv : f.slots[i]? = some v) (hE : lookV vs ⟨#[]⟩ = none) (H1 : Fits T vs ts f i) :
    agT (envB T vs ++ newB (envB T vs) ts f.slots i) t v = (if termOk T vs ts f i t = true then some (envB T vs ++ newB (envB T vs) ts f.slots (i + 1)) else none) ∧ (termOk T vs ts f i t = true → Fits T vs ts f (i + 1)) := by
  have h1 : testOf ts i t = some ⟨(i : Int), 1, -1, t.val⟩ := by
    unfold testOf tmOp
    rw [if_neg (by simp [hk]), if_pos (isE_iff.2 hvar), if_neg (by simp [hk])]
  have h2 : jtOf vs ts i t = none := by unfold jtOf; rw [hvar, hE]
  have h3 : termOk T vs ts f i t = decide (v = t.val) := by unfold termOk; rw [h1, h2]; simp only [tHolds_const hv, meets_one, Bool.and_true]
  rw [h3, newB_other ht hv (by omega)]
  refine ⟨?_, fun _ name x j hx hj => H1 name x j hx (by rwa [earlier_other ht (by omega)] at hj)⟩
  unfold agT
  rw [if_pos hk]
  by_cases h : v = t.val
  · rw [if_pos h, if_pos (decide_eq_true h)]
  · rw [if_neg h, if_neg (by simpa using h)]
theorem agT_step3 (hk : t.kind = 3) (hl : ts.length = f.slots.length) (ht : ts[i]? = some t) (hv : f.slots[i]? = some v) (hE : lookV vs ⟨#[]⟩ = none) (hK : t.var ≠ ⟨#[]⟩ → lookV vs t.var ≠ none ∨ earlier ts i t.var ≠ none) (H1 : Fits T vs ts f i) :
    agT (envB T vs ++ newB (envB T vs) ts f.slots i) t v = (if termOk T vs ts f i t = true then some (envB T vs ++ newB (envB T vs) ts f.slots (i + 1)) else none) ∧ (termOk T vs ts f i t = true → Fits T vs ts f (i + 1)) := by
  have hil : i < ts.length := (List.getElem?_eq_some_iff.1 ht).1
  rw [newB_other ht hv (by omega)]
  refine ⟨?_, fun _ name x j hx hj => H1 name x j hx (by rwa [earlier_other ht (by omega)] at hj)⟩
  unfold agT
  rw [if_neg (by omega), if_neg (by omega), if_pos hk]
  by_cases hvar : t.var = ⟨#[]⟩
  · have h1 : testOf ts i t = some ⟨(i : Int), t.op, -1, t.val⟩ := by
      unfold testOf tmOp
      rw [if_neg (by simp [hk]), if_pos (isE_iff.2 hvar), if_pos (by simp [hk])]
    have h2 : jtOf vs ts i t = none := by unfold jtOf; rw [hvar, hE]
    have h3 : termOk T vs ts f i t = meets t.op v t.val := by unfold termOk; rw [h1, h2]; simp only [tHolds_const hv, Bool.and_true]
    rw [h3, if_pos hvar]
  · have hne : ¬ t.var.toList.isEmpty = true := fun h => hvar (isE_iff.1 h)
    rw [if_neg hvar, look_out hl (Nat.le_of_lt hil), lookB_env]
    cases he : earlier ts i t.var with
    | some j =>
      have hj : j < f.slots.length := by
        have := firstVar_ltP he
        simp at this
        omega
      have h1 : testOf ts i t = some ⟨(i : Int), t.op, (j : Int), zVa⟩ := by
        unfold testOf tmOp
        rw [if_neg (by simp [hk]), if_neg hne, he]
        simp [hk]
      have h2 : jtOf vs ts i t = none := by
        unfold jtOf
        cases lookV vs t.var with
        | none => rfl
        | some x => simp only [he]
      have h3 : termOk T vs ts f i t = meets t.op v f.slots[j] := by unfold termOk; rw [h1, h2]; simp only [tHolds_two hv (List.getElem?_eq_getElem hj), Bool.and_true]
      have h4 : ((match (lookV vs t.var).map (vrVal T) with | some x => some x | none => (some j).bind (fun j => f.slots[j]?)).getD zVm) = f.slots[j] := by
        cases hlk : lookV vs t.var with
        | none => simp [hj]
        | some x =>
          have := H1 t.var (vrVal T x) j (by rw [lookB_env, hlk]; rfl) he
          rw [List.getElem?_eq_getElem hj] at this
          injection this with this
          simp [this]
      rw [h3, h4]
    | none =>
      cases hlk : lookV vs t.var with
      | none => rcases hK hvar with h | h; exact absurd hlk h; exact absurd he h
      | some x =>
        have h1 : testOf ts i t = none := by
          unfold testOf
          rw [if_neg (by simp [hk]), if_neg hne, he]
        have h2 : jtOf vs ts i t = some ⟨i, t.op, x.fact, x.slot⟩ := by
          unfold jtOf tmOp
          rw [hlk]
          simp only [he]
          simp [hk]
        have h3 : termOk T vs ts f i t = meets t.op v (vrVal T x) := by unfold termOk; rw [h1, h2]; simp only [jHolds_vr hv, Bool.true_and]
        rw [h3]
        rfl
theorem agT_step2 (hk : t.kind = 2) (hvar : t.var ≠ ⟨#[]⟩) (hl : ts.length = f.slots.length) (ht : ts[i]? = some t) (hv : f.slots[i]? = some v) (H1 : Fits T vs ts f i) :
    agT (envB T vs ++ newB (envB T vs) ts f.slots i) t v = (if termOk T vs ts f i t = true then some (envB T vs ++ newB (envB T vs) ts f.slots (i + 1)) else none) ∧ (termOk T vs ts f i t = true → Fits T vs ts f (i + 1)) := by
  have hil : i < ts.length := (List.getElem?_eq_some_iff.1 ht).1
  have hne : ¬ t.var.toList.isEmpty = true := fun h => hvar (isE_iff.1 h)
  have hop : tmOp t = 1 := by unfold tmOp; rw [if_neg (by simp [hk])]
  have ag : ∀ out, agT out t v = (match lookB out t.var with | some old => if old = v then some out else none | none => some (out ++ [⟨t.var, v⟩])) := by
    intro out
    unfold agT
    rw [if_neg (by omega), if_pos hk]
    cases lookB out t.var <;> rfl
  rw [ag, look_out hl (Nat.le_of_lt hil), newB_succ ht hv]
  cases he : earlier ts i t.var with
  | some j =>
    have hj : j < f.slots.length := by
      have := firstVar_ltP he
      simp at this
      omega
    have h1 : testOf ts i t = some ⟨(i : Int), 1, (j : Int), zVa⟩ := by
      unfold testOf
      rw [if_neg (by simp [hk]), if_neg hne, he, hop]
    have h2 : jtOf vs ts i t = none := by
      unfold jtOf
      cases lookV vs t.var with
      | none => rfl
      | some x => simp only [he]
    have h3 : termOk T vs ts f i t = decide (v = f.slots[j]) := by unfold termOk; rw [h1, h2]; simp only [tHolds_two hv (List.getElem?_eq_getElem hj), meets_one, Bool.and_true]
    have h4 : (match lookB (envB T vs) t.var with | some x => some x | none => (some j).bind (fun j => f.slots[j]?)) = some f.slots[j] := by
      cases hlk : lookB (envB T vs) t.var with
      | none => simp [hj]
      | some x =>
        have := H1 t.var x j hlk he
        rw [List.getElem?_eq_getElem hj] at this
        injection this with this
        simp [this]
    rw [h4, h3, if_neg (c := t.kind = 2 ∧ _) (fun e => by cases e.2.2), List.append_nil]
    refine ⟨?_, fun _ name x j' hx hj' => ?_⟩
    · by_cases h : v = f.slots[j]
      · simp [h]
      · show (if f.slots[j] = v then _ else _) = _
        rw [if_neg (fun e => h e.symm), if_neg (by simpa using h)]
    · rw [earlier_succ ht] at hj'
      cases hen : earlier ts i name with
      | some j2 => rw [hen] at hj'; injection hj' with hj'; subst hj'; exact H1 name x j2 hx hen
      | none =>
        rw [hen] at hj'
        simp only at hj'
        split at hj'
        · rename_i hv2
          rw [(isVar_iff.1 hv2).2] at he
          rw [he] at hen
          cases hen
        · cases hj'
  | none =>
    have h1 : testOf ts i t = none := by
      unfold testOf
      rw [if_neg (by simp [hk]), if_neg hne, he]
    cases hlk : lookV vs t.var with
    | none =>
      have hlb : lookB (envB T vs) t.var = none := by rw [lookB_env, hlk]; rfl
      have h2 : jtOf vs ts i t = none := by unfold jtOf; rw [hlk]
      have h3 : termOk T vs ts f i t = true := by unfold termOk; rw [h1, h2]; rfl
      rw [hlb, h3, if_pos rfl, if_pos ⟨hk, rfl, rfl⟩]
      refine ⟨by simp, fun _ name x j' hx hj' => ?_⟩
      rw [earlier_succ ht] at hj'
      cases hen : earlier ts i name with
      | some j2 => rw [hen] at hj'; injection hj' with hj'; subst hj'; exact H1 name x j2 hx hen
      | none =>
        rw [hen] at hj'
        simp only at hj'
        split at hj'
        · rename_i hv2
          rw [← (isVar_iff.1 hv2).2, hlb] at hx
          cases hx
        · cases hj'
    | some x =>
      have hlb : lookB (envB T vs) t.var = some (vrVal T x) := by rw [lookB_env, hlk]; rfl
      have h2 : jtOf vs ts i t = some ⟨i, 1, x.fact, x.slot⟩ := by
        unfold jtOf
        rw [hlk]
        simp only [he, hop]
      have h3 : termOk T vs ts f i t = decide (v = vrVal T x) := by unfold termOk; rw [h1, h2]; simp only [jHolds_vr hv, meets_one, Bool.true_and]
      rw [hlb, h3, if_neg (c := t.kind = 2 ∧ _) (fun e => by cases e.2.1), List.append_nil]
      refine ⟨?_, fun hok name y j' hx hj' => ?_⟩
      · by_cases h : v = vrVal T x
        · simp [h]
        · show (if vrVal T x = v then _ else _) = _
          rw [if_neg (fun e => h e.symm), if_neg (by simpa using h)]
      · rw [earlier_succ ht] at hj'
        cases hen : earlier ts i name with
        | some j2 => rw [hen] at hj'; injection hj' with hj'; subst hj'; exact H1 name y j2 hx hen
        | none =>
          rw [hen] at hj'
          simp only at hj'
          split at hj'
          · rename_i hv2
            injection hj' with hj'
            subst hj'
            rw [← (isVar_iff.1 hv2).2, hlb] at hx
            injection hx with hx
            rw [hv, of_decide_eq_true hok, hx]
          · cases hj'
end
end Go.Proofs.YtmmdlgjmplddiaaGreat

namespace Go.Proofs.YtmmdlgjmplddiaaGreat

section
variable {T : List F} {vs : List Vr} {f : F} {ts : List Tm}
def okUpTo (T : List F) (vs : List Vr) (ts : List Tm) (f : F) : Nat → Bool
  | 0 => true
  | i + 1 => okUpTo T vs ts f i && (match ts[i]? with | none => true | some t => termOk T vs ts f i t)
theorem okUpTo_succ {i : Nat} {t : Tm} (h : ts[i]? = some t) : okUpTo T vs ts f (i + 1) = (okUpTo T vs ts f i && termOk T vs ts f i t) := by simp [okUpTo, h]
theorem okUpTo_down {i : Nat} : ∀ n, i ≤ n → okUpTo T vs ts f n = true → okUpTo T vs ts f i = true
  | 0, h, hn => by
    have : i = 0 := by omega
    subst this
    exact hn
  | n + 1, h, hn => by
    by_cases he : i = n + 1
    · subst he; exact hn
    · simp only [okUpTo, Bool.and_eq_true] at hn
      exact okUpTo_down n (by omega) hn.1
theorem okUpTo_eq : ∀ n, okUpTo T vs ts f n = ((testsUpTo ts n).all (fun t => tHolds t f.slots) && (jtsUpTo vs ts n).all (jHolds T f))
  | 0 => rfl
  | n + 1 => by
    simp only [okUpTo, testsUpTo, jtsUpTo, List.all_append]
    rw [okUpTo_eq n]
    cases ts[n]? with
    | none => simp
    | some t =>
      simp only [termOk]
      cases testOf ts n t <;> cases jtOf vs ts n t <;> simp [Bool.and_assoc, Bool.and_left_comm, Bool.and_comm]
theorem gSym_ne {s : ByteArray} (h : gSym s.data.toList = true) : s ≠ ⟨#[]⟩ := by
  rintro rfl
  revert h
  decide
theorem agT_step {i : Nat} {t : Tm} {v : V} (hg : gTm t = true) (hl : ts.length = f.slots.length) (ht : ts[i]? = some t) (hv : f.slots[i]? = some v) (hE : lookV vs ⟨#[]⟩ = none) (hK : t.kind = 3 → t.var ≠ ⟨#[]⟩ → lookV vs t.var ≠ none ∨ earlier ts i t.var ≠ none) (H1 : Fits T vs ts f i) :
    agT (envB T vs ++ newB (envB T vs) ts f.slots i) t v = (if termOk T vs ts f i t = true then some (envB T vs ++ newB (envB T vs) ts f.slots (i + 1)) else none) ∧ (termOk T vs ts f i t = true → Fits T vs ts f (i + 1)) := by
  unfold gTm at hg
  by_cases h0 : t.kind = 0
  · rw [if_pos (by simpa using h0)] at hg
    simp only [Bool.and_eq_true] at hg
    exact agT_step0 h0 (isE_iff.1 hg.2.1) ht hv hE H1
  rw [if_neg (by simpa using h0)] at hg
  by_cases h1 : t.kind = 1
  · rw [if_pos (by simpa using h1)] at hg
    simp only [Bool.and_eq_true] at hg
    exact agT_step1 h1 (isE_iff.1 hg.2.1) ht hv hE H1
  rw [if_neg (by simpa using h1)] at hg
  by_cases h2 : t.kind = 2
  · rw [if_pos (by simpa using h2)] at hg
    simp only [Bool.and_eq_true] at hg
    exact agT_step2 h2 (gSym_ne hg.2.1) hl ht hv H1
  rw [if_neg (by simpa using h2)] at hg
  by_cases h3 : t.kind = 3
  · exact agT_step3 h3 hl ht hv hE (hK h3) H1
  · rw [if_neg (by simpa using h3)] at hg
    cases hg
theorem agGo_eq (hg : ∀ t ∈ ts, gTm t = true) (hl : ts.length = f.slots.length) (hE : lookV vs ⟨#[]⟩ = none) (hK : ∀ i t, ts[i]? = some t → t.kind = 3 → t.var ≠ ⟨#[]⟩ → lookV vs t.var ≠ none ∨ earlier ts i t.var ≠ none) : ∀ (d i : Nat), i + d = ts.length → okUpTo T vs ts f i = true → Fits T vs ts f i →
    agGo (envB T vs ++ newB (envB T vs) ts f.slots i) (ts.drop i) (f.slots.drop i) = (if okUpTo T vs ts f ts.length = true then some (envB T vs ++ newB (envB T vs) ts f.slots ts.length) else none)
  | 0, i, hi, hok, _ => by
    have : i = ts.length := by omega
    subst this
    rw [if_pos hok, List.drop_eq_nil_of_le (Nat.le_refl _)]
    rfl
  | d + 1, i, hi, hok, hf => by
    obtain ⟨t, ht⟩ : ∃ t, ts[i]? = some t := ⟨ts[i], by simp⟩
    obtain ⟨v, hv⟩ : ∃ v, f.slots[i]? = some v := ⟨f.slots[i], by simp⟩
    obtain ⟨h1, h2⟩ := agT_step (T := T) (hg t (List.mem_of_getElem? ht)) hl ht hv hE (hK i t ht) hf
    rw [drop_cons ht, drop_cons hv, agGo_cons, h1]
    by_cases hk : termOk T vs ts f i t = true
    · rw [if_pos hk]
      exact agGo_eq hg hl hE hK d (i + 1) (by omega) (by rw [okUpTo_succ ht, hok, hk]; rfl) (h2 hk)
    · rw [if_neg hk, if_neg (fun hn => hk (by have := okUpTo_down (i := i + 1) ts.length (by omega) hn; rw [okUpTo_succ ht, hok] at this; simpa using this))]
/-- A fact agrees with a right pattern under what a token binds just if it passes the pattern's Alpha and the join tests hold. -/
theorem agree_eq {p : Pt} (hg : gPt p = true) (hE : lookV vs ⟨#[]⟩ = none) (hK : ∀ i t, p.terms[i]? = some t → t.kind = 3 → t.var ≠ ⟨#[]⟩ → lookV vs t.var ≠ none ∨ earlier p.terms i t.var ≠ none) :
    agree p f (envB T vs) = (if (passes (alphaOf p) f && (jtsUpTo vs p.terms p.terms.length).all (jHolds T f)) = true then some (envB T vs ++ newB (envB T vs) p.terms f.slots p.terms.length) else none) := by
  have hal : alphaOf p = ⟨p.cls, (p.terms.length : Int), testsUpTo p.terms p.terms.length⟩ := if_pos hg
  have hgt : ∀ t ∈ p.terms, gTm t = true := by
    unfold gPt at hg
    simp only [Bool.and_eq_true] at hg
    exact List.all_eq_true.1 hg.2.2
  unfold agree
  rw [hal]
  by_cases hc : p.cls = f.cls ∧ p.terms.length = f.slots.length
  · have hp : passes ⟨p.cls, (p.terms.length : Int), testsUpTo p.terms p.terms.length⟩ f = (testsUpTo p.terms p.terms.length).all (fun t => tHolds t f.slots) := by
      unfold passes
      rw [decide_eq_true (by rw [hc.1]), decide_eq_true (by simp; omega)]
      simp
    rw [if_pos hc, hp, ← okUpTo_eq]
    have := agGo_eq (T := T) hgt hc.2 hE hK p.terms.length 0 (by omega) rfl (fun name x j _ h => by simp [earlier, firstVar] at h)
    simpa [newB] using this
  · rw [if_neg hc]
    have hp : passes ⟨p.cls, (p.terms.length : Int), testsUpTo p.terms p.terms.length⟩ f = false := by
      unfold passes
      by_cases h1 : p.cls = f.cls
      · rw [decide_eq_false (p := (f.slots.length : Int) = _) (by simp; intro e; exact hc ⟨h1, by omega⟩)]
        simp
      · rw [decide_eq_false (p := f.cls.toList = _) (by
          intro e
          have h2 : (f.cls.toList == p.cls.toList) = true := by simpa using e
          rw [bytes_beq] at h2
          exact h1 (by simpa using (Eq.symm (by simpa using h2 : f.cls = p.cls))))]
        rfl
    rw [hp]
    rfl
end
end Go.Proofs.YtmmdlgjmplddiaaGreat

namespace Go.Proofs.YtmmdlgjmplddiaaGreat

theorem lookV_append (s : ByteArray) (b : List Vr) : ∀ a : List Vr, lookV (a ++ b) s = (match lookV a s with | some x => some x | none => lookV b s)
  | [] => rfl
  | x :: r => by
    rw [List.cons_append, lookV_cons, lookV_cons]
    by_cases h : x.name = s
    · rw [if_pos h, if_pos h]
    · rw [if_neg h, if_neg h]; exact lookV_append s b r
section
variable {T : List F} {vs : List Vr} {f : F} {ts : List Tm} {n : Nat}
theorem lookV_bind (name : ByteArray) : ∀ i, i ≤ ts.length → ((lookV (bindUpTo vs ts n i) name = none) ↔ (lookV vs name = none ∧ earlier ts i name = none))
  | 0, _ => by simp [bindUpTo, earlier, firstVar]
  | i + 1, hi => by
    obtain ⟨t, ht⟩ : ∃ t, ts[i]? = some t := ⟨ts[i], by simp⟩
    have ih := lookV_bind name i (by omega)
    have iht : (lookV (bindUpTo vs ts n i) t.var = none) ↔ (lookV vs t.var = none ∧ earlier ts i t.var = none) := lookV_bind t.var i (by omega)
    rw [bindUpTo_succ ht, earlier_succ ht]
    by_cases h : t.kind = 2 ∧ lookV (bindUpTo vs ts n i) t.var = none
    · rw [if_pos h, lookV_append]
      cases hb : lookV (bindUpTo vs ts n i) name with
      | some x =>
        have hn : ¬ (lookV vs name = none ∧ earlier ts i name = none) := fun e => by rw [ih.2 e] at hb; cases hb
        constructor
        · intro e; cases e
        · rintro ⟨e1, e2⟩
          exfalso
          apply hn
          refine ⟨e1, ?_⟩
          cases he : earlier ts i name with
          | none => rfl
          | some j => rw [he] at e2; cases e2
      | none =>
        obtain ⟨h1, h2⟩ := ih.1 hb
        rw [h2]
        by_cases hv : t.var = name
        · rw [if_pos (isVar_iff.2 ⟨h.1, hv⟩)]
          simp [lookV, hv]
        · rw [if_neg (fun e => hv (isVar_iff.1 e).2)]
          simp [lookV, hv, h1]
    · rw [if_neg h, ih]
      constructor
      · rintro ⟨h1, h2⟩
        refine ⟨h1, ?_⟩
        rw [h2]
        refine if_neg (fun e => h ?_)
        obtain ⟨k2, kv⟩ := isVar_iff.1 e
        subst kv
        exact ⟨k2, iht.2 ⟨h1, h2⟩⟩
      · rintro ⟨h1, h2⟩
        refine ⟨h1, ?_⟩
        cases he : earlier ts i name with
        | none => rfl
        | some j => rw [he] at h2; cases h2
theorem envB_append (T : List F) (a b : List Vr) : envB T (a ++ b) = envB T a ++ envB T b := by simp [envB]
theorem envB_none {name : ByteArray} : (lookB (envB T vs) name = none) ↔ lookV vs name = none := by
  rw [lookB_env]
  cases lookV vs name <;> simp
theorem vrVal_new {i : Nat} {v : V} (name : ByteArray) (hv : f.slots[i]? = some v) : vrVal (T ++ [f]) ⟨name, T.length, i⟩ = v := by
  unfold vrVal
  simp [hv]
theorem vrVal_old {x : Vr} (hx : x.fact < T.length) : vrVal (T ++ [f]) x = vrVal T x := by
  unfold vrVal
  rw [List.getElem?_append_left hx]
theorem envB_old (h : ∀ x ∈ vs, x.fact < T.length) : envB (T ++ [f]) vs = envB T vs := by
  unfold envB
  exact List.map_congr_left (fun x hx => by rw [vrVal_old (h x hx)])
/-- The binds behind a positive pattern are those of the plan's variables in the longer token. -/
theorem envB_bind (hl : ts.length = f.slots.length) (h : ∀ x ∈ vs, x.fact < T.length) : ∀ i, i ≤ ts.length → envB (T ++ [f]) (bindUpTo vs ts T.length i) = envB T vs ++ newB (envB T vs) ts f.slots i
  | 0, _ => by simp [bindUpTo, newB, envB_old h]
  | i + 1, hi => by
    obtain ⟨t, ht⟩ : ∃ t, ts[i]? = some t := ⟨ts[i], by simp⟩
    obtain ⟨v, hv⟩ : ∃ v, f.slots[i]? = some v := ⟨f.slots[i], by simp⟩
    have ih := envB_bind hl h i (by omega)
    have hb := lookV_bind (vs := vs) (ts := ts) (n := T.length) t.var i (by omega)
    rw [bindUpTo_succ ht, newB_succ ht hv]
    by_cases hc : t.kind = 2 ∧ lookV (bindUpTo vs ts T.length i) t.var = none
    · rw [if_pos hc, envB_append, ih, if_pos ⟨hc.1, envB_none.2 (hb.1 hc.2).1, (hb.1 hc.2).2⟩, List.append_assoc]
      congr 2
      simp [envB, vrVal_new t.var hv]
    · rw [if_neg hc, ih, if_neg (fun e => hc ⟨e.1, hb.2 ⟨envB_none.1 e.2.1, e.2.2⟩⟩), List.append_nil]
theorem bind_facts (h : ∀ x ∈ vs, x.fact < n) : ∀ i, ∀ x ∈ bindUpTo vs ts n i, x.fact < n + 1
  | 0, x, hx => by have := h x hx; omega
  | i + 1, x, hx => by
    simp only [bindUpTo] at hx
    cases ht : ts[i]? with
    | none => rw [ht] at hx; exact bind_facts h i x hx
    | some t =>
      rw [ht] at hx
      simp only at hx
      split at hx
      · rcases List.mem_append.1 hx with hx | hx
        · exact bind_facts h i x hx
        · simp at hx
          subst hx
          simp
      · exact bind_facts h i x hx
end
end Go.Proofs.YtmmdlgjmplddiaaGreat

namespace Go.Proofs.YtmmdlgjmplddiaaGreat

/-- A condition without its node. -/
structure Cp where
  neg : Bool
  at_ : Nat
  alpha : Al
  tests : List Jt
def planGo : List Pt → List Vr → Nat → List Cp
  | [], _, _ => []
  | p :: ps, vs, n => ⟨p.neg, n, alphaOf p, jtsUpTo vs p.terms p.terms.length⟩ :: (if p.neg = true then planGo ps vs n else planGo ps (bindUpTo vs p.terms n p.terms.length) (n + 1))
/-- The patterns are right, and their tests name what is bound. -/
def KnR : List Pt → List Vr → Nat → Prop
  | [], _, _ => True
  | p :: ps, vs, n => gPt p = true ∧ (∀ i t, p.terms[i]? = some t → t.kind = 3 → t.var ≠ ⟨#[]⟩ → lookV vs t.var ≠ none ∨ earlier p.terms i t.var ≠ none) ∧ (if p.neg = true then KnR ps vs n else KnR ps (bindUpTo vs p.terms n p.terms.length) (n + 1))
def lets (c : Cp) (T : List F) (f : F) : Bool := passes c.alpha f && c.tests.all (jHolds T f)
/-- The tokens that conditions let through, from one on. -/
def exts : List Cp → List F → List F → List (List F)
  | [], _, T => [T]
  | c :: cs, fs, T => if c.neg = true then (if fs.any (lets c T) = true then [] else exts cs fs T) else (fs.filter (lets c T)).flatMap (fun f => exts cs fs (T ++ [f]))
theorem allM_nil (fs : List F) : ∀ (ps : List Pt) (m : Nat), (allM ps fs [] m).1 = []
  | [], _ => rfl
  | p :: ps, m => by
    simp only [allM]
    exact allM_nil fs ps _
theorem allM_fst (fs : List F) : ∀ (ps : List Pt) (xs : List Pm) (m m' : Nat), (allM ps fs xs m).1 = (allM ps fs xs m').1
  | [], _, _, _ => rfl
  | p :: ps, xs, m, m' => by
    simp only [allM]
    exact allM_fst fs ps _ _ _
theorem allM_append (fs : List F) : ∀ (ps : List Pt) (xs ys : List Pm) (m : Nat), (allM ps fs (xs ++ ys) m).1 = (allM ps fs xs m).1 ++ (allM ps fs ys m).1
  | [], _, _, _ => rfl
  | p :: ps, xs, ys, m => by
    simp only [allM]
    have h : nextM p fs (xs ++ ys) = nextM p fs xs ++ nextM p fs ys := by unfold nextM; exact List.flatMap_append
    rw [h, allM_append fs ps, allM_fst fs ps _ _ (m + (nextM p fs xs).length), allM_fst fs ps (nextM p fs ys) _ (m + (nextM p fs ys).length)]
theorem allM_flat (fs : List F) (ps : List Pt) (m : Nat) : ∀ xs : List Pm, (allM ps fs xs m).1 = xs.flatMap (fun x => (allM ps fs [x] 0).1)
  | [] => by rw [allM_nil]; rfl
  | x :: r => by
    rw [show x :: r = [x] ++ r from rfl, allM_append, allM_flat fs ps m r, allM_fst fs ps [x] m 0]
    simp
theorem earlier_empty {ts : List Tm} (hg : ∀ t ∈ ts, gTm t = true) : ∀ i, i ≤ ts.length → earlier ts i ⟨#[]⟩ = none
  | 0, _ => rfl
  | i + 1, hi => by
    obtain ⟨t, ht⟩ : ∃ t, ts[i]? = some t := ⟨ts[i], by simp⟩
    rw [earlier_succ ht, earlier_empty hg i (by omega)]
    refine if_neg (fun e => ?_)
    obtain ⟨k2, kv⟩ := isVar_iff.1 e
    have := hg t (List.mem_of_getElem? ht)
    unfold gTm at this
    rw [if_neg (by simp [k2]), if_neg (by simp [k2]), if_pos (by simp [k2])] at this
    simp only [Bool.and_eq_true] at this
    exact gSym_ne this.2.1 kv
theorem gPt_terms {p : Pt} (h : gPt p = true) : ∀ t ∈ p.terms, gTm t = true := by
  unfold gPt at h
  simp only [Bool.and_eq_true] at h
  exact List.all_eq_true.1 h.2.2
theorem hits_eq {p : Pt} {T : List F} {vs : List Vr} (hg : gPt p = true) (hE : lookV vs ⟨#[]⟩ = none) (hK : ∀ i t, p.terms[i]? = some t → t.kind = 3 → t.var ≠ ⟨#[]⟩ → lookV vs t.var ≠ none ∨ earlier p.terms i t.var ≠ none) (hT : ∀ x ∈ vs, x.fact < T.length) (c : Cp) (hc1 : c.alpha = alphaOf p) (hc2 : c.tests = jtsUpTo vs p.terms p.terms.length) :
    ∀ fs : List F, hits p ⟨T.map (·.tag), envB T vs⟩ fs = (fs.filter (lets c T)).map (fun f => ⟨(T ++ [f]).map (·.tag), envB (T ++ [f]) (bindUpTo vs p.terms T.length p.terms.length)⟩)
  | [] => rfl
  | f :: r => by
    have ih := hits_eq hg hE hK hT c hc1 hc2 r
    have ha := agree_eq (T := T) (f := f) hg hE hK
    have hl : lets c T f = (passes (alphaOf p) f && (jtsUpTo vs p.terms p.terms.length).all (jHolds T f)) := by unfold lets; rw [hc1, hc2]
    rw [← hl] at ha
    simp only [hits]
    rw [ih, ha]
    by_cases h : lets c T f = true
    · have hlen : p.terms.length = f.slots.length := by
        rw [hl, Bool.and_eq_true] at h
        have h1 := h.1
        rw [show alphaOf p = ⟨p.cls, (p.terms.length : Int), testsUpTo p.terms p.terms.length⟩ from if_pos hg] at h1
        unfold passes at h1
        simp only [Bool.and_eq_true, decide_eq_true_eq] at h1
        omega
      rw [if_pos h, List.filter_cons_of_pos h, List.map_cons, envB_bind hlen hT p.terms.length (Nat.le_refl _)]
      simp
    · rw [if_neg h, List.filter_cons_of_neg h]
      rfl
end Go.Proofs.YtmmdlgjmplddiaaGreat

namespace Go.Proofs.YtmmdlgjmplddiaaGreat
open Go.RowKit Go.Maps

/-- A condition with its node and its tests' row. -/
structure Cx where
  cp : Cp
  node : Nat
  ta : Option Addr
  tc : Nat
def cxCells (c : Cx) : List Value := [.bool c.cp.neg, .int .i64 (c.cp.at_ : Int), .pointer (some ⟨c.node, 0, none⟩), .slice c.ta c.cp.tests.length c.tc]
/-- The variables of a plan. -/
def varsGo : List Pt → List Vr → Nat → List Vr
  | [], vs, _ => vs
  | p :: ps, vs, n => if p.neg = true then varsGo ps vs n else varsGo ps (bindUpTo vs p.terms n p.terms.length) (n + 1)
theorem Fr3.then_fr {gb mb : Nat} {row row' : Option Nat} {u v w : World} (h : Fr3 gb mb row u v) (k : Fr3 gb mb row' v w) (hr : ∀ g, row' = some g → row = some g ∨ u.heap.size ≤ g) : Fr3 gb mb row u w := ⟨h.rest.trans k.rest, fun j hj h1 h2 h3 => (k.block j (Nat.lt_of_lt_of_le hj h.rest.size) h1 h2 (fun e => by rcases hr j e with h' | h'; exact h3 h'; omega)).trans (h.block j hj h1 h2 h3)⟩
/-- A plan that is being made: its box, its rows; the nodes of its conditions. -/
structure PN (w : World) (B pb : Nat) (ca : Option Addr) (cc : Nat) (va : Option Addr) (vc : Nat) (X : List Cx) (U : List Vr) (A : List Al) (bs : List Nat) : Prop where
  box : PlB w pb (.slice ca X.length cc) (.slice va U.length vc)
  conds : w.ownsRow B 140 4 (.slice ca X.length cc) X.length (X.flatMap cxCells)
  vars : w.ownsRow B 215 3 (.slice va U.length vc) U.length (U.flatMap vrCells)
  tests : ∀ c ∈ X, w.ownsRow B 182 4 (.slice c.ta c.cp.tests.length c.tc) c.cp.tests.length (c.cp.tests.flatMap jtCells)
  nodes : ∀ c ∈ X, ∃ i : Nat, A[i]? = some c.cp.alpha ∧ bs[i]? = some c.node
theorem PN.keptB {w w' : World} {B pb : Nat} {ca : Option Addr} {cc : Nat} {va : Option Addr} {vc : Nat} {X : List Cx} {U : List Vr} {A : List Al} {bs : List Nat} (h : PN w B pb ca cc va vc X U A bs) (hb : ∀ (k : Nat) (c : Array Value) (t : TypeId) (fr : Nat × Nat), w.heap[k]? = some (.cells c t fr) → (t = 71 ∨ t = 140 ∨ t = 215 ∨ t = 182) → w'.heap[k]? = some (.cells c t fr)) : PN w' B pb ca cc va vc X U A bs := by
  have keyO : ∀ {e : TypeId} {m : Nat} {v : Value} {n : Nat} {xs : List Value}, w.ownsRow B e m v n xs → (e = 71 ∨ e = 140 ∨ e = 215 ∨ e = 182) → w'.ownsRow B e m v n xs := fun ho he => owns_of_block ho fun k hk => by
    obtain ⟨c, hc⟩ := own_type ho hk
    rw [hb k _ _ _ hc he, hc]
  exact ⟨hb _ _ _ _ h.box (.inl rfl), keyO h.conds (.inr (.inl rfl)), keyO h.vars (.inr (.inr (.inl rfl))), fun c hc => keyO (h.tests c hc) (.inr (.inr (.inr rfl))), h.nodes⟩
/-- A plan that was made: its rows, the nodes of its conditions. -/
structure PD (w : World) (B : Nat) (ca : Option Addr) (cc : Nat) (va : Option Addr) (vc : Nat) (X : List Cx) (U : List Vr) (A : List Al) (bs : List Nat) : Prop where
  conds : w.ownsRow B 140 4 (.slice ca X.length cc) X.length (X.flatMap cxCells)
  vars : w.ownsRow B 215 3 (.slice va U.length vc) U.length (U.flatMap vrCells)
  tests : ∀ c ∈ X, w.ownsRow B 182 4 (.slice c.ta c.cp.tests.length c.tc) c.cp.tests.length (c.cp.tests.flatMap jtCells)
  nodes : ∀ c ∈ X, ∃ i : Nat, A[i]? = some c.cp.alpha ∧ bs[i]? = some c.node
theorem PD.keptB {w w' : World} {B : Nat} {ca : Option Addr} {cc : Nat} {va : Option Addr} {vc : Nat} {X : List Cx} {U : List Vr} {A : List Al} {bs : List Nat} (h : PD w B ca cc va vc X U A bs) (hb : ∀ (k : Nat) (c : Array Value) (t : TypeId) (fr : Nat × Nat), w.heap[k]? = some (.cells c t fr) → (t = 140 ∨ t = 215 ∨ t = 182) → w'.heap[k]? = some (.cells c t fr)) : PD w' B ca cc va vc X U A bs := by
  have keyO : ∀ {e : TypeId} {m : Nat} {v : Value} {n : Nat} {xs : List Value}, w.ownsRow B e m v n xs → (e = 140 ∨ e = 215 ∨ e = 182) → w'.ownsRow B e m v n xs := fun ho he => owns_of_block ho fun k hk => by
    obtain ⟨c, hc⟩ := own_type ho hk
    rw [hb k _ _ _ hc he, hc]
  exact ⟨keyO h.conds (.inl rfl), keyO h.vars (.inr (.inl rfl)), fun c hc => keyO (h.tests c hc) (.inr (.inr rfl)), h.nodes⟩
/-- The state of the making: nodes, plan, and what has been written since w. -/
structure PS (kl : Al → Lit) (w : World) (R0 : Option Nat) (bs0 : List Nat) (A0 : List Al) (base gb mb pb : Nat) (la : Option Addr) (lc : Nat) (L : List AlX) (bs : List Nat) (D : DataW Unit) (ca : Option Addr) (cc : Nat) (va : Option Addr) (vc : Nat) (X : List Cx) (U : List Vr) (wr : World) : Prop where
  ns : NS kl wr base gb mb la lc L bs D
  pn : PN wr w.heap.size pb ca cc va vc X U (L.map Prod.fst) bs
  fr : Fr3 gb mb R0 w wr
  rw' : ∀ g, (Value.slice la L.length lc).ownBlock = some g → R0 = some g ∨ w.heap.size ≤ g
  ext : ∀ (i n : Nat), bs0[i]? = some n → bs[i]? = some n
  exa : ∀ (i : Nat) (y : Al), A0[i]? = some y → (L.map Prod.fst)[i]? = some y
  six : ∀ x ∈ L, x.1.tests.length ≤ 6
theorem addA_ext {A : List Al} {x y : Al} {i : Nat} (h : A[i]? = some y) : (addA A x)[i]? = some y := by
  unfold addA
  split
  · exact h
  · rw [List.getElem?_append_left (List.getElem?_eq_some_iff.1 h).1]
    exact h
theorem PS.of {kl : Al → Lit} {w wr w' : World} {R0 : Option Nat} {bs0 : List Nat} {A0 : List Al} {base gb mb pb : Nat} {la la' : Option Addr} {lc lc' : Nat} {L L' : List AlX} {bs bs' : List Nat} {D D' : DataW Unit} {ca : Option Addr} {cc : Nat} {va : Option Addr} {vc : Nat} {X : List Cx} {U : List Vr} {x : Al} (h : PS kl w R0 bs0 A0 base gb mb pb la lc L bs D ca cc va vc X U wr) (hn : NS kl w' base gb mb la' lc' L' bs' D') (hx6 : x.tests.length ≤ 6) (hL : L'.map Prod.fst = addA (L.map Prod.fst) x) (hf : Fr3 gb mb (Value.slice la L.length lc).ownBlock wr w') (he : ∀ (i n : Nat), bs[i]? = some n → bs'[i]? = some n) (hr : ∀ g, (Value.slice la' L'.length lc').ownBlock = some g → (Value.slice la L.length lc).ownBlock = some g ∨ wr.heap.size ≤ g) : PS kl w R0 bs0 A0 base gb mb pb la' lc' L' bs' D' ca cc va vc X U w' := by
  have hp : PN w' w.heap.size pb ca cc va vc X U (L.map Prod.fst) bs := h.pn.keptB fun k c t fr hk ht => hf.box hk h.ns (by rcases ht with rfl | rfl | rfl | rfl <;> decide) (by rcases ht with rfl | rfl | rfl | rfl <;> decide)
  refine ⟨hn, ⟨hp.box, hp.conds, hp.vars, hp.tests, fun c hc => ?_⟩, h.fr.then_fr hf h.rw', fun g hg => ?_, fun i n hi => he i n (h.ext i n hi), fun i y hi => by rw [hL]; exact addA_ext (h.exa i y hi), fun y hy => ?_⟩
  · obtain ⟨i, h1, h2⟩ := hp.nodes c hc
    exact ⟨i, by rw [hL]; exact addA_ext h1, he i _ h2⟩
  · rcases hr g hg with h1 | h1
    · exact h.rw' g h1
    · exact .inr (Nat.le_trans h.fr.rest.size h1)
  · have hm : y.1 ∈ addA (L.map Prod.fst) x := by rw [← hL]; exact List.mem_map.2 ⟨y, hy, rfl⟩
    unfold addA at hm
    split at hm
    · obtain ⟨z, hz, e⟩ := List.mem_map.1 hm
      rw [← e]
      exact h.six z hz
    · rcases List.mem_append.1 hm with hm | hm
      · obtain ⟨z, hz, e⟩ := List.mem_map.1 hm
        rw [← e]
        exact h.six z hz
      · rw [List.mem_singleton.1 hm]
        exact hx6
theorem varsGo_cons (p : Pt) (ps : List Pt) (vs : List Vr) (n : Nat) : varsGo (p :: ps) vs n = if p.neg = true then varsGo ps vs n else varsGo ps (bindUpTo vs p.terms n p.terms.length) (n + 1) := rfl
end Go.Proofs.YtmmdlgjmplddiaaGreat

namespace Go.Proofs.YtmmdlgjmplddiaaGreat

end Go.Proofs.YtmmdlgjmplddiaaGreat

namespace Go.Proofs.YtmmdlgjmplddiaaGreat

theorem memB_append (s : ByteArray) (l : List ByteArray) (x : ByteArray) : memB s (l ++ [x]) = (memB s l || decide (x = s)) := by simp [memB]
theorem asks_iff {t : Tm} : asks t = true ↔ t.kind = 3 ∧ t.var ≠ ⟨#[]⟩ := by
  unfold asks isE
  constructor
  · intro h
    simp only [Bool.and_eq_true, beq_iff_eq, Bool.not_eq_true'] at h
    exact ⟨h.1, fun e => by rw [isE_iff.2 e] at h; cases h.2⟩
  · rintro ⟨h1, h2⟩
    simp only [Bool.and_eq_true, beq_iff_eq, Bool.not_eq_true']
    refine ⟨h1, ?_⟩
    cases he : t.var.toList.isEmpty
    · rfl
    · exact absurd (isE_iff.1 he) h2
/-- Names that are known, beside the plan's variables and a pattern's terms. -/
def KnI (vs : List Vr) (ts : List Tm) (i : Nat) (here : List ByteArray) : Prop := ∀ name, memB name here = true ↔ (lookV vs name ≠ none ∨ earlier ts i name ≠ none)
theorem terms_known {vs : List Vr} {ts : List Tm} : ∀ (d i : Nat) (here h : List ByteArray), i + d = ts.length → KnI vs ts i here → termsGo (ts.drop i) here = some h →
    (∀ j t, i ≤ j → ts[j]? = some t → t.kind = 3 → t.var ≠ ⟨#[]⟩ → lookV vs t.var ≠ none ∨ earlier ts j t.var ≠ none) ∧ KnI vs ts ts.length h
  | 0, i, here, h, hi, hk, hg => by
    have : i = ts.length := by omega
    subst this
    rw [List.drop_eq_nil_of_le (Nat.le_refl _)] at hg
    simp only [termsGo] at hg
    injection hg with hg
    subst hg
    exact ⟨fun j t hj ht => by have := (List.getElem?_eq_some_iff.1 ht).1; omega, hk⟩
  | d + 1, i, here, h, hi, hk, hg => by
    obtain ⟨t, ht⟩ : ∃ t, ts[i]? = some t := ⟨ts[i], by simp⟩
    rw [drop_cons ht] at hg
    simp only [termsGo] at hg
    split at hg
    · cases hg
    · rename_i hno
      have hk' : KnI vs ts (i + 1) (if t.kind == 2 then here ++ [t.var] else here) := by
        intro name
        rw [earlier_succ ht]
        by_cases h2 : t.kind = 2
        · rw [if_pos (by simpa using h2), memB_append, Bool.or_eq_true, hk name]
          cases he : earlier ts i name with
          | some j => simp
          | none =>
            by_cases hv : t.var = name
            · rw [if_pos (isVar_iff.2 ⟨h2, hv⟩)]
              simp [hv]
            · rw [if_neg (fun e => hv (isVar_iff.1 e).2)]
              simp [hv]
        · rw [if_neg (by simpa using h2), hk name, if_neg (fun e => h2 (isVar_iff.1 e).1)]
          cases earlier ts i name <;> simp
      obtain ⟨r1, r2⟩ := terms_known d (i + 1) _ h (by omega) hk' hg
      refine ⟨fun j u hj hu h3 hv => ?_, r2⟩
      by_cases hji : j = i
      · subst hji
        rw [ht] at hu
        injection hu with hu
        subst hu
        have ha := asks_iff.2 ⟨h3, hv⟩
        rw [ha] at hno
        simp at hno
        exact (hk t.var).1 hno
      · exact r1 j u (by omega) hu h3 hv
theorem pats_known : ∀ (ps : List Pt) (vs : List Vr) (n : Nat) (known out : List ByteArray) (k : Nat), (∀ p ∈ ps, gPt p = true) → (∀ name, memB name known = true ↔ lookV vs name ≠ none) → patsGo ps known k = .inr out → KnR ps vs n
  | [], _, _, _, _, _, _, _, _ => trivial
  | p :: ps, vs, n, known, out, k, hg, hk, h => by
    simp only [patsGo] at h
    cases ht : termsGo p.terms known with
    | none => rw [ht] at h; cases h
    | some here =>
      rw [ht] at h
      simp only at h
      obtain ⟨r1, r2⟩ := terms_known (vs := vs) (ts := p.terms) p.terms.length 0 known here (by omega) (fun name => by rw [hk name]; simp [earlier, firstVar]) (by simpa using ht)
      refine ⟨hg p List.mem_cons_self, fun i t hi h3 hv => r1 i t (Nat.zero_le _) hi h3 hv, ?_⟩
      split
      · rename_i hneg
        rw [if_pos hneg] at h
        exact pats_known ps vs n known out (k + 1) (fun q hq => hg q (List.mem_cons_of_mem _ hq)) hk h
      · rename_i hneg
        rw [if_neg hneg] at h
        refine pats_known ps _ (n + 1) here out (k + 1) (fun q hq => hg q (List.mem_cons_of_mem _ hq)) (fun name => ?_) h
        rw [r2 name, Ne, Ne, Ne, lookV_bind name _ (Nat.le_refl _)]
        by_cases h1 : lookV vs name = none <;> simp [h1]
theorem chkGo_scope : ∀ (rs pre : List Ru) (k : Nat), (chkGo pre rs k).1 = 0 → ∀ r ∈ rs, scope r = none
  | [], _, _, _, r, hr => by simp at hr
  | x :: s, pre, k, h, r, hr => by
    simp only [chkGo] at h
    split at h
    · rename_i h0
      rcases List.mem_cons.1 hr with rfl | hr
      · unfold chk1 at h0
        split at h0
        · simp at h0
        · split at h0
          · simp at h0
          · split at h0
            · split at h0
              · simp at h0
              · assumption
            · simp at h0
      · exact chkGo_scope s _ _ h r hr
    · rename_i h0
      exact absurd h h0
/-- A checked rule's patterns. -/
theorem chk_known {rs : List Ru} (h : (chk rs).1 = 0) {r : Ru} (hr : r ∈ rs) : KnR r.pats [] 0 := by
  obtain ⟨h1, _⟩ := (chk_each h).2 r hr
  have hs : scope r = none := by
    unfold chk at h
    split at h
    · exact chkGo_scope rs [] 0 h r hr
    · simp at h
  unfold scope at hs
  cases hp : patsGo r.pats [] 1 with
  | inl i => rw [hp] at hs; cases hs
  | inr known => exact pats_known r.pats [] 0 [] known 1 (shape_pats h1).2 (fun name => by simp [memB, lookV]) hp
end Go.Proofs.YtmmdlgjmplddiaaGreat

namespace Go.Proofs.YtmmdlgjmplddiaaGreat

end Go.Proofs.YtmmdlgjmplddiaaGreat
